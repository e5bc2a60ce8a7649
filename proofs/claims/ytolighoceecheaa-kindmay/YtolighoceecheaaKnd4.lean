/-
  Package kind: Zero, Fits; the document's twin's Offset, KindWord; scullionlaw8.awake. No conditions but what is in memory.
-/
import Derived.Test.YtolighoceecheaaKnd3
namespace Go.Flo
open Go.RowKit Go.Bit

/-- A field's kind of value at first. -/
def zk (f : Nat → Int) (j : Nat) : Int := if f j = 1 ∨ f j = 2 then f j else 0
/-- The cells of values of kinds F. -/
def zc (F : Nat → Int) (i : Nat) : Value := if i % 5 = 0 then .int .i64 (F (i / 5)) else if i % 5 = 1 ∨ i % 5 = 4 then .int .i64 0 else .int .u64 0
def zv : Array Value := #[.int .i64 0, .int .i64 0, .int .u64 0, .int .u64 0, .int .i64 0]
end Go.Flo
namespace Go.Proofs.Ytolighoceecheaa
open Go.RowKit Go.Flo Go.Bit
set_option maxRecDepth 100000

theorem valparts : (Try.prog.info? 42).map (fun i => (i.zero, i.size, i.bytes)) = some (some (.agg zv), 5, 40) := by kernel_rfl

theorem mk_vals (n : Nat) (hn : n ≤ 1000) (W : World) : (Instr.makeSlice 38 (.int .i64 (n : Nat)) (.int .i64 (n : Nat))).run Try.prog W = .ok (.slice (some ⟨W.heap.size, 0, none⟩) n n) (W.alloc (.cells (madeCells zv (n * 5)) 42)) := by
  obtain ⟨i, hi, h1, h2, h3⟩ := info_of valparts
  have := run_make (P := Try.prog) W 38 42 i (.agg zv) Try.underlying38 hi h1 .i64 .i64 (n : Nat) (n : Nat) (by omega) (by omega) (by rw [h3]; omega) (by omega)
  rw [h2] at this
  simpa [Value.cells] using this

theorem zrow {W : World} {g n : Nat} (hn : n ≤ 1000) (h : Blk W g 42 (madeCells zv (n * 5))) : Row W 42 g (n * 5) (n * 5) (zc (fun _ => 0)) := by
  refine ⟨_, h, by rw [size_madeCells], Nat.le_refl _, by unfold maxLen; omega, fun i hi => ?_⟩
  have h5 : i % 5 < 5 := Nat.mod_lt _ (by omega)
  have e : (madeCells zv (n * 5))[i]? = some (zv[i % 5]!) := by simp [madeCells, hi, show zv.size = 5 from rfl]
  rw [e]
  unfold zc
  match hq : i % 5, h5 with
  | 0, _ => rfl
  | 1, _ => rfl
  | 2, _ => rfl
  | 3, _ => rfl
  | 4, _ => rfl

def ZPost (m : Nat) (f : Nat → Int) (w : World) (e : Ending) (w' : World) : Prop :=
  ∃ g, e = .returned (.slice (some ⟨g, 0, none⟩) m m) ∧ Row w' 42 g (m * 5) (m * 5) (zc (zk f)) ∧ w.heap.size ≤ g ∧ Keep [] w w'
def ZRel (w : World) (m : Nat) (f : Nat → Int) (y : Value) (wr : World) : Prop :=
  ∃ j : Nat, j ≤ m ∧ y = .int .i64 j ∧ Row wr 42 (w.heap.size + 1) (m * 5) (m * 5) (zc (fun i => if i < j then zk f i else 0)) ∧ Keep [] w wr

theorem zset (F F' : Nat → Int) (j i : Nat) (x : Int) (hx : F' j = x) (ho : ∀ k, k ≠ j → F' k = F k) : (if i = j * 5 then Value.int .i64 x else zc F i) = zc F' i := by
  unfold zc
  by_cases h : i = j * 5
  · subst h
    simp [hx]
  · rw [if_neg h]
    by_cases h0 : i % 5 = 0
    · rw [if_pos h0, if_pos h0, ho (i / 5) (by omega)]
    · rw [if_neg h0, if_neg h0]

set_option maxHeartbeats 1000000 in
theorem kzero_any (w : World) (A : Option Addr) (m c : Nat) (f : Nat → Int) (hm : m ≤ 15) (h : Ints w A m c f) :
    Calls Try.prog 23 #[.agg #[.slice A m c]] w (ZPost m f w) := by
  have k1 : Keep [] w (w.alloc (.cells #[.slice A m c] 25)) := Keep.alloc _ _
  have HI := Lib.hid h
  have hcc := h.cap
  have hnc := h.nc
  clear h
  have hmk := fun W => mk_vals m (by omega) W
  go_enter Try.func23, Try.ntmps23
  go_wp2
  clear hmk
  go_loopw [17] (fun y wr => ZRel w m f y wr) (fun y _ => m - (intOf y).toNat)
  case atStart =>
    have ka : Keep [] (w.alloc (.cells #[.slice A m c] 25)) ((w.alloc (.cells #[.slice A m c] 25)).alloc (.cells (madeCells zv (m * 5)) 42)) := Keep.alloc _ _
    have hr := zrow (n := m) (by omega) (Blk.new (w.alloc (.cells #[.slice A m c] 25)) 42 (madeCells zv (m * 5)))
    rw [show (w.alloc (.cells #[.slice A m c] 25)).heap.size = w.heap.size + 1 by simp] at hr
    exact ⟨0, by omega, rfl, hr.congr (fun i hi => by simp), k1.trans ka⟩
  case round =>
  obtain ⟨j, hj, rfl, hrow, hK⟩ := hrel
  by_cases hlt : j < m
  case neg =>
    obtain rfl : j = m := by omega
    have HH := Lib.hid (And.intro hrow hK)
    clear hrow hK
    go_wp2
    go_ret
    refine ⟨w.heap.size + 1, rfl, HH.out.1.congr (fun i hi => ?_), by omega, HH.out.2⟩
    unfold zc
    have : i / 5 < j := by omega
    simp [this]
  obtain ⟨b, o, rfl, hb, hc⟩ := (HI.out.keep hK).cells (by omega)
  have cj := hc j hlt
  clear hc
  by_cases h12 : f j = 1 ∨ f j = 2
  case neg =>
    have hne1 : (f j == 1) = false := by simp; omega
    have hne2 : (f j == 2) = false := by simp; omega
    have HZ := Lib.hid (show zk f j = 0 from if_neg h12)
    have HH := Lib.hid (And.intro hrow hK)
    clear hrow hK h12
    go_wp2
    go_roundw
    case rel =>
      refine ⟨j + 1, by omega, by go_num, HH.out.1.congr (fun i hi => ?_), HH.out.2⟩
      unfold zc
      by_cases e : i / 5 = j
      · rw [e]; simp [HZ.out]
      · have : (i / 5 < j) ↔ (i / 5 < j + 1) := by omega
        simp [this]
    case measure => simp [intOf]; omega
  have HZ := Lib.hid (show zk f j = f j from if_pos h12)
  have y0 := hrow.cell (i := j * 5) (by omega)
  have y1 := hrow.frozen (j * 5)
  rw [show zc (fun i => if i < j then zk f i else 0) (j * 5) = .int .i64 0 by unfold zc; simp] at y0
  have hrl := hrow.lt
  have HR := Lib.hid hrow
  have HK := Lib.hid hK
  clear hrow hK
  rcases h12 with h1 | h1
  all_goals
    rw [h1] at cj HZ
    clear h1
    go_wp2
    go_roundw
    case rel =>
      refine ⟨j + 1, by omega, by go_num, (HR.out.set_ (j * 5) _).congr (fun i hi => ?_), HK.out.since (own := [w.heap.size + 1]) (Keep.setCell _ _ (by simp) _) (by simp)⟩
      refine zset _ _ j i _ ?_ ?_
      · simp [HZ.out]
      · intro k hk
        have : (k < j) ↔ (k < j + 1) := by omega
        simp [this]
    case measure => simp [intOf]; omega

/-- A value that fits the field i. -/
theorem kfits_yes (w : World) (A : Option Addr) (m c i : Nat) (f : Nat → Int) (vk vi re im rf : Int) (h : Ints w A m c f) (hi : i < m) (hv : vk = f i ∨ (vk = 0 ∧ f i = 3)) :
    Calls Try.prog 24 #[.agg #[.slice A m c], .int .i64 i, .agg #[.int .i64 vk, .int .i64 vi, .int .u64 re, .int .u64 im, .int .i64 rf]] w fun e w' => e = .returned (.bool true) ∧ Keep [] w w' := by
  have k1 : Keep [] w (w.alloc (.cells #[.slice A m c] 25)) := Keep.alloc _ _
  have k2 : Keep [] w ((w.alloc (.cells #[.slice A m c] 25)).alloc (.cells #[.int .i64 vk, .int .i64 vi, .int .u64 re, .int .u64 im, .int .i64 rf] 42)) := k1.trans (Keep.alloc _ _)
  obtain ⟨b, o, rfl, hb, hc⟩ := h.cells (by omega)
  have cj := hc i hi
  have hcc := h.cap
  have hnc := h.nc
  clear h hc
  rcases hv with rfl | ⟨rfl, h3⟩
  · have hee : (f i == f i) = true := by simp
    go_enter Try.func24, Try.ntmps24
    go_wp2
    go_ret
    exact ⟨rfl, k2⟩
  · rw [h3] at cj
    go_enter Try.func24, Try.ntmps24
    go_wp2
    go_ret
    exact ⟨rfl, k2⟩

def RoRel (f : Nat → Int) (n : Nat) (w : World) (x y : Value) (wr : World) : Prop := ∃ j : Nat, j ≤ n ∧ y = .int .i64 j ∧ x = .int .i64 (sumF f j : Nat) ∧ w = wr

set_option maxHeartbeats 1000000 in
theorem roffset_any (w : World) (A : Option Addr) (m c : Nat) (f : Nat → Int) (i : Int) (h : Ints w A m c f) :
    Calls Try.prog 10 #[.agg #[.slice A m c], .int .i64 i] w fun e w' => e = .returned (.int .i64 (offZ (kwds m f) m f i)) ∧ Keep [] w w' := by
  have k1 : Keep [] w (w.alloc (.cells #[.slice A m c] 25)) := Keep.alloc _ _
  have hb := Blk.new w 25 #[.slice A m c]
  have hI := h.keep k1
  have hk := kindWords_any (w.alloc (.cells #[.slice A m c] 25)) A m c f hI
  have hcc := h.cap
  have hnc := h.nc
  clear h
  by_cases c3 : kwds m f = 0
  · rw [show offZ (kwds m f) m f i = -1 from if_pos (by omega)]
    rw [c3] at hk
    clear hI hb c3
    go_enter Try.func10, Try.ntmps10
    go_wp2_with fail
    (with_reducible refine hk.mono ?_)
    rintro e w3 ⟨rfl, k3⟩
    go_wp2
    go_ret
    exact ⟨rfl, k1.trans k3⟩
  have hq0 : ((kwds m f : Nat) : Int) ≠ 0 := by omega
  have hq1 : (((kwds m f : Nat) : Int) == 0) = false := by simp; omega
  by_cases c1 : i < 0
  · rw [show offZ (kwds m f) m f i = -1 from if_pos (by omega)]
    generalize kwds m f = q at *
    clear hI hb hq0
    go_enter Try.func10, Try.ntmps10
    go_wp2_with fail
    (with_reducible refine hk.mono ?_)
    rintro e w3 ⟨rfl, k3⟩
    go_wp2
    go_ret
    exact ⟨rfl, k1.trans k3⟩
  by_cases c2 : (m : Int) ≤ i
  · rw [show offZ (kwds m f) m f i = -1 from if_pos (by omega)]
    generalize kwds m f = q at *
    clear hI hq0
    go_enter Try.func10, Try.ntmps10
    go_wp2_with fail
    (with_reducible refine hk.mono ?_)
    rintro e w3 ⟨rfl, k3⟩
    have q0 := ((hb.keep k3 (by simp)).cell 0).trans (show _ = some (Value.slice A m c) from rfl)
    go_wp2
    go_ret
    exact ⟨rfl, k1.trans k3⟩
  obtain ⟨n, rfl⟩ : ∃ n : Nat, i = n := ⟨i.toNat, by omega⟩
  obtain ⟨hm, hF⟩ := kwds_fields c3
  have HD := Lib.hid (show offZ (kwds m f) m f (n : Int) = ((sumF f n : Nat) : Int) by
    unfold offZ
    rw [if_neg (by omega), Int.toNat_natCast])
  generalize kwds m f = q at *
  have hno : n ≤ m := by omega
  have HI := Lib.hid (ints_take hI hno)
  have HF := Lib.hid hF
  clear hI hF c3 hq0
  go_enter Try.func10, Try.ntmps10
  go_wp2_with fail
  (with_reducible refine hk.mono ?_)
  rintro e w3 ⟨rfl, k3⟩
  have q0 := ((hb.keep k3 (by simp)).cell 0).trans (show _ = some (Value.slice A m c) from rfl)
  clear hk hb
  go_wp2
  clear q0
  go_loopw [5, 27] (fun x y wr => RoRel f n w3 x y wr) (fun _ y _ => n - (intOf y).toNat)
  case atStart => exact ⟨0, by omega, rfl, rfl, rfl⟩
  case round =>
  obtain ⟨j, hj, rfl, rfl, rfl⟩ := hrel
  by_cases hlt : j < n
  case neg =>
    obtain rfl : j = n := by omega
    go_wp2
    go_ret
    exact ⟨by rw [HD.out]; rfl, k1.trans k3⟩
  obtain ⟨b, o, rfl, hb, hc⟩ := (HI.out.keep k3).cells (by omega)
  have cj := hc j hlt
  have hs := sumF_le f j
  have hsucc : sumF f (j + 1) = sumF f j + fw (f j) := rfl
  have HS := Lib.hid hsucc
  clear hc hsucc
  by_cases h2 : f j = 2
  · have HE := Lib.hid (show fw (f j) = 2 by rw [h2]; rfl)
    rw [h2] at cj
    clear h2
    go_wp2
    go_roundw
    case rel => exact ⟨j + 1, by omega, by go_num, by rw [HS.out, HE.out]; go_num, rfl⟩
    case measure => simp [intOf]; omega
  · have HE := Lib.hid (show fw (f j) = 1 from if_neg h2)
    have h2' : (f j == 2) = false := by simpa using h2
    clear h2
    go_wp2
    go_roundw
    case rel => exact ⟨j + 1, by omega, by go_num, by rw [HS.out, HE.out]; go_num, rfl⟩
    case measure => simp [intOf]; omega

theorem rkindWord_any (w : World) (A : Option Addr) (m c : Nat) (f : Nat → Int) (h : Ints w A m c f) :
    Calls Try.prog 18 #[.agg #[.slice A m c]] w fun e w' => e = .returned (.int .u64 (kwz m f : Nat)) ∧ Keep [] w w' := by
  by_cases hM : MayK m f
  · rw [show kwz m f = kw m f from if_pos hM]
    exact rkindWord_yes w A m c f h hM
  rw [show kwz m f = 0 from if_neg hM]
  have k1 : Keep [] w (w.alloc (.cells #[.slice A m c] 25)) := Keep.alloc _ _
  have hmk := rmayKind_any _ A m c f (h.keep k1)
  rw [show decide (MayK m f) = false from decide_eq_false hM] at hmk
  clear hM h
  go_enter Try.func18, Try.ntmps18
  go_wp2_with fail
  (with_reducible refine hmk.mono ?_)
  rintro e w2 ⟨rfl, k2⟩
  go_wp2
  go_ret
  exact ⟨rfl, k1.trans k2⟩

def awf (j : Nat) : Int := (j + 1 : Nat)
theorem aw_may : MayK 3 awf := by decide

set_option maxHeartbeats 1000000 in
theorem awake8_any (w : World) : Calls Try.prog 8 #[] w fun e w' => e = .returned (.bool true) ∧ Keep [] w w' := by
  have b1 := Blk.new w 3 #[.int .i64 1, .int .i64 2, .int .i64 3]
  have k1 : Keep [] w (w.alloc (.cells #[.int .i64 1, .int .i64 2, .int .i64 3] 3)) := Keep.alloc _ _
  have b2 := Blk.new (w.alloc (.cells #[.int .i64 1, .int .i64 2, .int .i64 3] 3)) 25 #[.slice (some ⟨w.heap.size, 0, none⟩) 3 3]
  have k2 : Keep [] (w.alloc (.cells #[.int .i64 1, .int .i64 2, .int .i64 3] 3)) ((w.alloc (.cells #[.int .i64 1, .int .i64 2, .int .i64 3] 3)).alloc (.cells #[.slice (some ⟨w.heap.size, 0, none⟩) 3 3] 25)) := Keep.alloc _ _
  have e1 : (w.alloc (.cells #[.int .i64 1, .int .i64 2, .int .i64 3] 3)).heap.size = w.heap.size + 1 := by simp
  rw [e1] at b2
  have b1' := b1.keep k2 (by simp)
  obtain ⟨w2, hw2⟩ : ∃ w2, w2 = ((w.alloc (.cells #[.int .i64 1, .int .i64 2, .int .i64 3] 3)).alloc (.cells #[.slice (some ⟨w.heap.size, 0, none⟩) 3 3] 25)) := ⟨_, rfl⟩
  have k12 := k1.trans k2
  rw [← hw2] at b1' b2 k12
  have hI : Ints w2 (some ⟨w.heap.size, 0, none⟩) 3 3 awf := ⟨Nat.le_refl _, fun e => (by cases e), by omega, fun _ => ⟨w.heap.size, 0, rfl, b1'.lt, fun j hj => by
    match j, hj with
    | 0, _ => exact b1'.cell 0
    | 1, _ => exact b1'.cell 1
    | 2, _ => exact b1'.cell 2⟩⟩
  have hM := fun W (hk : Keep [] w2 W) => kmay_any W _ 3 3 awf (hI.keep hk)
  rw [show decide (MayK 3 awf) = true by decide] at hM
  have hW := fun W (hk : Keep [] w2 W) => kwords_any W _ 3 3 awf (hI.keep hk)
  rw [show kwds 3 awf = 5 by decide] at hW
  have hO := fun W (hk : Keep [] w2 W) => koffset_any W _ 3 3 awf 2 (hI.keep hk)
  rw [show offZ (kwds 3 awf) 3 awf 2 = 4 by decide] at hO
  have hbk := fun W (hk : Keep [] w2 W) => ((b2.keep hk (by simp)).cell 0).trans (show _ = some (Value.slice (some ⟨w.heap.size, 0, none⟩) 3 3) from rfl)
  have hMM := Lib.hid (And.intro hM (And.intro hW (And.intro hO hbk)))
  clear hM hW hO hbk b1 b2 b1' e1 k1 k2 hI
  go_enter Try.func8, Try.ntmps8
  subst hw2
  go_wp2_with fail
  (with_reducible refine (hMM.out.1 _ (Keep.refl _ _)).mono ?_)
  rintro e w3 ⟨rfl, k3⟩
  have q0 := hMM.out.2.2.2 _ k3
  go_wp2_with fail
  (with_reducible refine (hMM.out.2.1 _ k3).mono ?_)
  rintro e w4 ⟨rfl, k4⟩
  have q1 := hMM.out.2.2.2 _ (k3.trans k4)
  clear q0
  go_wp2_with fail
  (with_reducible refine (hMM.out.2.2.1 _ (k3.trans k4)).mono ?_)
  rintro e w5 ⟨rfl, k5⟩
  go_wp2
  go_ret
  exact ⟨rfl, (k12.trans k3).trans (k4.trans k5)⟩
end Go.Proofs.Ytolighoceecheaa
