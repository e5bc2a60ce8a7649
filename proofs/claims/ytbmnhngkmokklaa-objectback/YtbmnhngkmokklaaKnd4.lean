/-
  Package kind: Zero, Fits; the document's twin's Offset, KindWord; scullionlaw8.awake. No conditions but what is in memory.
-/
import Derived.Test.YtbmnhngkmokklaaKnd3
namespace Go.Flo
open Go.RowKit Go.Bit

/-- A field's kind of value at first. -/
def zk (f : Nat → Int) (j : Nat) : Int := if f j = 1 ∨ f j = 2 then f j else 0
/-- The cells of values of kinds F. -/
def zc (F : Nat → Int) (i : Nat) : Value := if i % 5 = 0 then .int .i64 (F (i / 5)) else if i % 5 = 1 ∨ i % 5 = 4 then .int .i64 0 else .int .u64 0
def zv : Array Value := #[.int .i64 0, .int .i64 0, .int .u64 0, .int .u64 0, .int .i64 0]
end Go.Flo
namespace Go.Proofs.Ytbmnhngkmokklaa
open Go.RowKit Go.Flo Go.Bit
set_option maxRecDepth 100000

theorem valparts : (Try.prog.info? 26).map (fun i => (i.zero, i.size, i.bytes)) = some (some (.agg zv), 5, 40) := by kernel_rfl

theorem mk_vals (n : Nat) (hn : n ≤ 1000) (W : World) : (Instr.makeSlice 23 (.int .i64 (n : Nat)) (.int .i64 (n : Nat))).run Try.prog W = .ok (.slice (some ⟨W.heap.size, 0, none⟩) n n) (W.alloc (.cells (madeCells zv (n * 5)) 26)) := by
  obtain ⟨i, hi, h1, h2, h3⟩ := info_of valparts
  have := run_make (P := Try.prog) W 23 26 i (.agg zv) Try.underlying23 hi h1 .i64 .i64 (n : Nat) (n : Nat) (by omega) (by omega) (by rw [h3]; omega) (by omega)
  rw [h2] at this
  simpa [Value.cells] using this

theorem zrow {W : World} {g n : Nat} (hn : n ≤ 1000) (h : Blk W g 26 (madeCells zv (n * 5))) : Row W 26 g (n * 5) (n * 5) (zc (fun _ => 0)) := by
  refine ⟨_, h, by rw [size_madeCells], Nat.le_refl _, by unfold maxLen; omega, fun i hi => ?_⟩
  have h5 : i % 5 < 5 := Nat.mod_lt _ (by omega)
  have e : (madeCells zv (n * 5))[i]? = some (zv[i % 5]!) := by simp [madeCells, hi, show zv.size = 5 from rfl]
  rw [e]
  unfold zc
  match hq : i % 5, h5 with
  | 0, _ => rfl
  | 1, _ => rfl
  | 2, _ => rfl
  | 3, _ => rfl
  | 4, _ => rfl

def ZPost (m : Nat) (f : Nat → Int) (w : World) (e : Ending) (w' : World) : Prop :=
  ∃ g, e = .returned (.slice (some ⟨g, 0, none⟩) m m) ∧ Row w' 26 g (m * 5) (m * 5) (zc (zk f)) ∧ w.heap.size ≤ g ∧ Keep [] w w'
def ZRel (w : World) (m : Nat) (f : Nat → Int) (y : Value) (wr : World) : Prop :=
  ∃ j : Nat, j ≤ m ∧ y = .int .i64 j ∧ Row wr 26 (w.heap.size + 1) (m * 5) (m * 5) (zc (fun i => if i < j then zk f i else 0)) ∧ Keep [] w wr

theorem zset (F F' : Nat → Int) (j i : Nat) (x : Int) (hx : F' j = x) (ho : ∀ k, k ≠ j → F' k = F k) : (if i = j * 5 then Value.int .i64 x else zc F i) = zc F' i := by
  unfold zc
  by_cases h : i = j * 5
  · subst h
    simp [hx]
  · rw [if_neg h]
    by_cases h0 : i % 5 = 0
    · rw [if_pos h0, if_pos h0, ho (i / 5) (by omega)]
    · rw [if_neg h0, if_neg h0]

def RoRel (f : Nat → Int) (n : Nat) (w : World) (x y : Value) (wr : World) : Prop := ∃ j : Nat, j ≤ n ∧ y = .int .i64 j ∧ x = .int .i64 (sumF f j : Nat) ∧ w = wr

set_option maxHeartbeats 1000000 in
theorem roffset_any (w : World) (A : Option Addr) (m c : Nat) (f : Nat → Int) (i : Int) (h : Ints w A m c f) :
    Calls Try.prog 26 #[.agg #[.slice A m c], .int .i64 i] w fun e w' => e = .returned (.int .i64 (offZ (kwds m f) m f i)) ∧ Keep [] w w' := by
  have k1 : Keep [] w (w.alloc (.cells #[.slice A m c] 47)) := Keep.alloc _ _
  have hb := Blk.new w 47 #[.slice A m c]
  have hI := h.keep k1
  have hk := kindWords_any (w.alloc (.cells #[.slice A m c] 47)) A m c f hI
  have hcc := h.cap
  have hnc := h.nc
  clear h
  by_cases c3 : kwds m f = 0
  · rw [show offZ (kwds m f) m f i = -1 from if_pos (by omega)]
    rw [c3] at hk
    clear hI hb c3
    go_enter Try.func26, Try.ntmps26
    go_wp2_with fail
    (with_reducible refine hk.mono ?_)
    rintro e w3 ⟨rfl, k3⟩
    go_wp2
    go_ret
    exact ⟨rfl, k1.trans k3⟩
  have hq0 : ((kwds m f : Nat) : Int) ≠ 0 := by omega
  have hq1 : (((kwds m f : Nat) : Int) == 0) = false := by simp; omega
  by_cases c1 : i < 0
  · rw [show offZ (kwds m f) m f i = -1 from if_pos (by omega)]
    generalize kwds m f = q at *
    clear hI hb hq0
    go_enter Try.func26, Try.ntmps26
    go_wp2_with fail
    (with_reducible refine hk.mono ?_)
    rintro e w3 ⟨rfl, k3⟩
    go_wp2
    go_ret
    exact ⟨rfl, k1.trans k3⟩
  by_cases c2 : (m : Int) ≤ i
  · rw [show offZ (kwds m f) m f i = -1 from if_pos (by omega)]
    generalize kwds m f = q at *
    clear hI hq0
    go_enter Try.func26, Try.ntmps26
    go_wp2_with fail
    (with_reducible refine hk.mono ?_)
    rintro e w3 ⟨rfl, k3⟩
    have q0 := ((hb.keep k3 (by simp)).cell 0).trans (show _ = some (Value.slice A m c) from rfl)
    go_wp2
    go_ret
    exact ⟨rfl, k1.trans k3⟩
  obtain ⟨n, rfl⟩ : ∃ n : Nat, i = n := ⟨i.toNat, by omega⟩
  obtain ⟨hm, hF⟩ := kwds_fields c3
  have HD := Lib.hid (show offZ (kwds m f) m f (n : Int) = ((sumF f n : Nat) : Int) by
    unfold offZ
    rw [if_neg (by omega), Int.toNat_natCast])
  generalize kwds m f = q at *
  have hno : n ≤ m := by omega
  have HI := Lib.hid (ints_take hI hno)
  have HF := Lib.hid hF
  clear hI hF c3 hq0
  go_enter Try.func26, Try.ntmps26
  go_wp2_with fail
  (with_reducible refine hk.mono ?_)
  rintro e w3 ⟨rfl, k3⟩
  have q0 := ((hb.keep k3 (by simp)).cell 0).trans (show _ = some (Value.slice A m c) from rfl)
  clear hk hb
  go_wp2
  clear q0
  go_loopw [5, 27] (fun x y wr => RoRel f n w3 x y wr) (fun _ y _ => n - (intOf y).toNat)
  case atStart => exact ⟨0, by omega, rfl, rfl, rfl⟩
  case round =>
  obtain ⟨j, hj, rfl, rfl, rfl⟩ := hrel
  by_cases hlt : j < n
  case neg =>
    obtain rfl : j = n := by omega
    go_wp2
    go_ret
    exact ⟨by rw [HD.out]; rfl, k1.trans k3⟩
  obtain ⟨b, o, rfl, hb, hc⟩ := (HI.out.keep k3).cells (by omega)
  have cj := hc j hlt
  have hs := sumF_le f j
  have hsucc : sumF f (j + 1) = sumF f j + fw (f j) := rfl
  have HS := Lib.hid hsucc
  clear hc hsucc
  by_cases h2 : f j = 2
  · have HE := Lib.hid (show fw (f j) = 2 by rw [h2]; rfl)
    rw [h2] at cj
    clear h2
    go_wp2
    go_roundw
    case rel => exact ⟨j + 1, by omega, by go_num, by rw [HS.out, HE.out]; go_num, rfl⟩
    case measure => simp [intOf]; omega
  · have HE := Lib.hid (show fw (f j) = 1 from if_neg h2)
    have h2' : (f j == 2) = false := by simpa using h2
    clear h2
    go_wp2
    go_roundw
    case rel => exact ⟨j + 1, by omega, by go_num, by rw [HS.out, HE.out]; go_num, rfl⟩
    case measure => simp [intOf]; omega

def awf (j : Nat) : Int := (j + 1 : Nat)
theorem aw_may : MayK 3 awf := by decide

end Go.Proofs.Ytbmnhngkmokklaa
