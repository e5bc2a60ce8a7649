/-
  The document's twin: SameInts, SameKind, SameConfig; and layout.Config. No conditions but what is in memory.
-/
import Derived.Test.YtihfejbkojhkaaaR63
import Derived.Test.YtihfejbkojhkaaaLay5
namespace Go.Flo
/-- The same numbers. -/
def SameI (m : Nat) (f : Nat → Int) (m' : Nat) (f' : Nat → Int) : Prop := m = m' ∧ ∀ j, j < m → f j = f' j
instance (m : Nat) (f : Nat → Int) (m' : Nat) (f' : Nat → Int) : Decidable (SameI m f m' f') := by unfold SameI; infer_instance
/-- The same kinds. -/
def SameKs (n : Nat) (m : Nat → Nat) (f : Nat → Nat → Int) (n' : Nat) (m' : Nat → Nat) (f' : Nat → Nat → Int) : Prop := n = n' ∧ ∀ i, i < n → SameI (m i) (f i) (m' i) (f' i)
instance (n : Nat) (m : Nat → Nat) (f : Nat → Nat → Int) (n' : Nat) (m' : Nat → Nat) (f' : Nat → Nat → Int) : Decidable (SameKs n m f n' m' f') := by unfold SameKs; infer_instance
theorem SameKs.refl (n : Nat) (m : Nat → Nat) (f : Nat → Nat → Int) : SameKs n m f n m f := ⟨rfl, fun _ _ => ⟨rfl, fun _ _ => rfl⟩⟩
end Go.Flo
namespace Go.Proofs.Ytihfejbkojhkaaa
open Go.RowKit Go.Flo Go.Bit
set_option maxRecDepth 100000

def SiRel (w : World) (m : Nat) (f f' : Nat → Int) (x : Value) (wr : World) : Prop := ∃ j : Nat, j ≤ m ∧ x = .int .i64 j ∧ (∀ i, i < j → f i = f' i) ∧ Dr w wr

set_option maxHeartbeats 1000000 in
theorem sameInts_any (w : World) (A A' : Option Addr) (m c m' c' : Nat) (f f' : Nat → Int) (h : Ints w A m c f) (h' : Ints w A' m' c' f') :
    Calls Try.prog 62 #[.slice A m c, .slice A' m' c'] w fun e w' => e = .returned (.bool (decide (SameI m f m' f'))) ∧ Dr w w' := by
  by_cases c1 : m = m'
  case neg =>
    rw [show decide (SameI m f m' f') = false from decide_eq_false (fun h => c1 h.1)]
    have c2 : ((m : Int) == (m' : Int)) = false := by simp; omega
    go_enter Try.func62, Try.ntmps62
    go_wp2
    go_ret
    exact ⟨rfl, Dr.refl _⟩
  subst c1
  have HI := Lib.hid h
  have HI' := Lib.hid h'
  have hcm := h.nc
  have hcc := h.cap
  clear h h'
  go_enter Try.func62, Try.ntmps62
  go_wp2
  go_loopw [13] (fun x wr => SiRel w m f f' x wr) (fun x _ => m - (intOf x).toNat)
  case atStart => exact ⟨0, by omega, rfl, fun i hi => by omega, Dr.refl _⟩
  case round =>
  obtain ⟨j, hj, rfl, hok, hD⟩ := hrel
  have HO := Lib.hid hok
  clear hok
  by_cases hlt : j < m
  case neg =>
    obtain rfl : j = m := by omega
    have HD := Lib.hid (show decide (SameI j f j f') = true from decide_eq_true ⟨rfl, HO.out⟩)
    go_wp2
    go_ret
    exact ⟨by rw [HD.out]; rfl, hD⟩
  obtain ⟨b, o, rfl, hb, hc⟩ := (HI.out.keep (Keep.dr hD)).cells (by omega)
  obtain ⟨b', o', rfl, hb', hc'⟩ := (HI'.out.keep (Keep.dr hD)).cells (by omega)
  have cj := hc j hlt
  have cj' := hc' j hlt
  clear hc hc'
  by_cases he : f j = f' j
  · have HE := Lib.hid he
    have he2 : (f j == f' j) = true := by simp [he]
    clear he
    go_wp2_with fail
    go_quiet (fail)
    go_wp2
    go_roundw
    case rel => exact ⟨j + 1, by omega, by go_num, fun i hi => by
      rcases Nat.lt_or_ge i j with h | h
      · exact HO.out i h
      · rw [show i = j by omega]; exact HE.out, hD.trans (Dr.drewN _ _)⟩
    case measure => simp [intOf]; omega
  · have he2 : (f j == f' j) = false := by simp [he]
    have HD := Lib.hid (show decide (SameI m f m f') = false from decide_eq_false (fun hx => he (hx.2 j hlt)))
    clear he
    go_wp2_with fail
    go_quiet (fail)
    go_wp2
    go_ret
    exact ⟨by rw [HD.out]; rfl, hD.trans (Dr.drewN _ _)⟩

theorem sameKind_any (w : World) (A A' : Option Addr) (m c m' c' : Nat) (f f' : Nat → Int) (h : Ints w A m c f) (h' : Ints w A' m' c' f') :
    Calls Try.prog 48 #[.agg #[.slice A m c], .agg #[.slice A' m' c']] w fun e w' => e = .returned (.bool (decide (SameI m f m' f'))) ∧ Keep [] w w' := by
  have k1 : Keep [] w (w.alloc (.cells #[.slice A m c] 60)) := Keep.alloc _ _
  have k2 : Keep [] w ((w.alloc (.cells #[.slice A m c] 60)).alloc (.cells #[.slice A' m' c'] 60)) := k1.trans (Keep.alloc _ _)
  have hs := sameInts_any _ A A' m c m' c' f f' (h.keep k2) (h'.keep k2)
  clear h h'
  go_enter Try.func48, Try.ntmps48
  go_wp2_with fail
  (with_reducible refine hs.mono ?_)
  rintro e w3 ⟨rfl, d3⟩
  go_wp2
  go_ret
  exact ⟨rfl, k2.trans (Keep.dr d3)⟩

def ScRel (w : World) (n : Nat) (m : Nat → Nat) (f : Nat → Nat → Int) (m' : Nat → Nat) (f' : Nat → Nat → Int) (x : Value) (wr : World) : Prop := ∃ j : Nat, j ≤ n ∧ x = .int .i64 j ∧ (∀ i, i < j → SameI (m i) (f i) (m' i) (f' i)) ∧ Keep [] w wr
/-- The same configs. -/
def SameC (n : Nat) (m : Nat → Nat) (f : Nat → Nat → Int) (b0 b1 b2 b3 r wk lg : Int) (n' : Nat) (m' : Nat → Nat) (f' : Nat → Nat → Int) (c0 c1 c2 c3 r' wk' lg' : Int) : Prop :=
  (b0 = c0 ∧ b1 = c1 ∧ b2 = c2 ∧ b3 = c3) ∧ r = r' ∧ wk = wk' ∧ lg = lg' ∧ SameKs n m f n' m' f'
instance (n : Nat) (m : Nat → Nat) (f : Nat → Nat → Int) (b0 b1 b2 b3 r wk lg : Int) (n' : Nat) (m' : Nat → Nat) (f' : Nat → Nat → Int) (c0 c1 c2 c3 r' wk' lg' : Int) : Decidable (SameC n m f b0 b1 b2 b3 r wk lg n' m' f' c0 c1 c2 c3 r' wk' lg') := by unfold SameC; infer_instance

set_option maxHeartbeats 1000000 in
theorem sameConfig_any (w : World) (A A' : Option Addr) (n cap n' cap' : Nat) (m m' : Nat → Nat) (f f' : Nat → Nat → Int) (b0 b1 b2 b3 r wk lg c0 c1 c2 c3 r' wk' lg' : Int) (h : KRow w A n cap m f) (h' : KRow w A' n' cap' m' f') :
    Calls Try.prog 21 #[.agg #[.slice A n cap, .int .i64 b0, .int .i64 b1, .int .i64 b2, .int .i64 b3, .int .i64 r, .int .i64 wk, .int .i64 lg], .agg #[.slice A' n' cap', .int .i64 c0, .int .i64 c1, .int .i64 c2, .int .i64 c3, .int .i64 r', .int .i64 wk', .int .i64 lg']] w fun e w' => e = .returned (.bool (decide (SameC n m f b0 b1 b2 b3 r wk lg n' m' f' c0 c1 c2 c3 r' wk' lg'))) ∧ Keep [] w w' := by
  have hb0 := Blk.new w 25 #[.slice A n cap, .int .i64 b0, .int .i64 b1, .int .i64 b2, .int .i64 b3, .int .i64 r, .int .i64 wk, .int .i64 lg]
  obtain ⟨w2, hw2⟩ : ∃ w2, w2 = (w.alloc (.cells #[.slice A n cap, .int .i64 b0, .int .i64 b1, .int .i64 b2, .int .i64 b3, .int .i64 r, .int .i64 wk, .int .i64 lg] 25)).alloc (.cells #[.slice A' n' cap', .int .i64 c0, .int .i64 c1, .int .i64 c2, .int .i64 c3, .int .i64 r', .int .i64 wk', .int .i64 lg'] 25) := ⟨_, rfl⟩
  have k1 : Keep [] w (w.alloc (.cells #[.slice A n cap, .int .i64 b0, .int .i64 b1, .int .i64 b2, .int .i64 b3, .int .i64 r, .int .i64 wk, .int .i64 lg] 25)) := Keep.alloc _ _
  have k12 : Keep [] (w.alloc (.cells #[.slice A n cap, .int .i64 b0, .int .i64 b1, .int .i64 b2, .int .i64 b3, .int .i64 r, .int .i64 wk, .int .i64 lg] 25)) w2 := by rw [hw2]; exact Keep.alloc _ _
  have k2 : Keep [] w w2 := k1.trans k12
  have HB1 := Lib.hid (hb0.keep k12 (by simp))
  have hb2 := Blk.new (w.alloc (.cells #[.slice A n cap, .int .i64 b0, .int .i64 b1, .int .i64 b2, .int .i64 b3, .int .i64 r, .int .i64 wk, .int .i64 lg] 25)) 25 #[.slice A' n' cap', .int .i64 c0, .int .i64 c1, .int .i64 c2, .int .i64 c3, .int .i64 r', .int .i64 wk', .int .i64 lg']
  rw [← hw2, show (w.alloc (.cells #[.slice A n cap, .int .i64 b0, .int .i64 b1, .int .i64 b2, .int .i64 b3, .int .i64 r, .int .i64 wk, .int .i64 lg] 25)).heap.size = w.heap.size + 1 by simp] at hb2
  have HB2 := Lib.hid hb2
  have K2 := Lib.hid k2
  have HW2 := Lib.hid hw2
  have ie := fun W => eq4 W b0 b1 b2 b3 c0 c1 c2 c3
  have HI := Lib.hid (h.keep k2)
  have HI' := Lib.hid (h'.keep k2)
  clear h h' hb0 hb2 k1 k12 k2 hw2
  by_cases d0 : b0 = c0 ∧ b1 = c1 ∧ b2 = c2 ∧ b3 = c3
  case neg =>
    rw [show decide (SameC n m f b0 b1 b2 b3 r wk lg n' m' f' c0 c1 c2 c3 r' wk' lg') = false from decide_eq_false (fun h => d0 h.1)]
    have e0 : (b0 == c0 && (b1 == c1 && (b2 == c2 && b3 == c3))) = false := by
      rw [Bool.eq_false_iff]; intro hx; simp only [Bool.and_eq_true, beq_iff_eq] at hx; exact d0 ⟨hx.1, hx.2.1, hx.2.2.1, hx.2.2.2⟩
    rw [e0] at ie
    clear d0 e0
    go_enter Try.func21, Try.ntmps21
    go_wp2
    go_ret
    exact ⟨rfl, by have := K2.out; rw [HW2.out] at this; exact this⟩
  obtain ⟨rfl, rfl, rfl, rfl⟩ := d0
  rw [show (b0 == b0 && (b1 == b1 && (b2 == b2 && b3 == b3))) = true by simp] at ie
  by_cases d1 : r = r'
  case neg =>
    rw [show decide (SameC n m f b0 b1 b2 b3 r wk lg n' m' f' b0 b1 b2 b3 r' wk' lg') = false from decide_eq_false (fun h => d1 h.2.1)]
    have e1 : (r == r') = false := by simpa using d1
    go_enter Try.func21, Try.ntmps21
    go_wp2
    go_ret
    exact ⟨rfl, by have := K2.out; rw [HW2.out] at this; exact this⟩
  subst d1
  by_cases d2 : wk = wk'
  case neg =>
    rw [show decide (SameC n m f b0 b1 b2 b3 r wk lg n' m' f' b0 b1 b2 b3 r wk' lg') = false from decide_eq_false (fun h => d2 h.2.2.1)]
    have e1 : (wk == wk') = false := by simpa using d2
    go_enter Try.func21, Try.ntmps21
    go_wp2
    go_ret
    exact ⟨rfl, by have := K2.out; rw [HW2.out] at this; exact this⟩
  subst d2
  by_cases d3 : lg = lg'
  case neg =>
    rw [show decide (SameC n m f b0 b1 b2 b3 r wk lg n' m' f' b0 b1 b2 b3 r wk lg') = false from decide_eq_false (fun h => d3 h.2.2.2.1)]
    have e1 : (lg == lg') = false := by simpa using d3
    go_enter Try.func21, Try.ntmps21
    go_wp2
    go_ret
    exact ⟨rfl, by have := K2.out; rw [HW2.out] at this; exact this⟩
  subst d3
  by_cases d4 : n = n'
  case neg =>
    rw [show decide (SameC n m f b0 b1 b2 b3 r wk lg n' m' f' b0 b1 b2 b3 r wk lg) = false from decide_eq_false (fun h => d4 h.2.2.2.2.1)]
    have e1 : ((n : Int) == (n' : Int)) = false := by simp; omega
    clear d4
    go_enter Try.func21, Try.ntmps21
    go_wp2
    go_ret
    exact ⟨rfl, by have := K2.out; rw [HW2.out] at this; exact this⟩
  subst d4
  go_enter Try.func21, Try.ntmps21
  go_wp2
  go_loopw [44] (fun x wr => ScRel w2 n m f m' f' x wr) (fun x _ => n - (intOf x).toNat)
  case atStart => exact ⟨0, by omega, rfl, fun i hi => by omega, by rw [← HW2.out]; exact Keep.refl _ _⟩
  case round =>
  obtain ⟨j, hj, rfl, hok, hK⟩ := hrel
  have HO := Lib.hid hok
  clear hok
  have q0 := ((HB1.out.keep hK (by simp)).cell 0).trans (show _ = some (Value.slice A n cap) from rfl)
  have q1 := ((HB2.out.keep hK (by simp)).cell 0).trans (show _ = some (Value.slice A' n cap') from rfl)
  by_cases hlt : j < n
  case neg =>
    obtain rfl : j = n := by omega
    have HD := Lib.hid (show decide (SameC j m f b0 b1 b2 b3 r wk lg j m' f' b0 b1 b2 b3 r wk lg) = true from decide_eq_true ⟨⟨rfl, rfl, rfl, rfl⟩, rfl, rfl, rfl, rfl, HO.out⟩)
    go_wp2
    go_ret
    exact ⟨by rw [HD.out]; rfl, K2.out.trans hK⟩
  have hnc := HI.out.nc
  have hnc' := HI'.out.nc
  have hcap := HI.out.cap
  have hcap' := HI'.out.cap
  obtain ⟨b, o, rfl, hb, hc⟩ := (HI.out.keep hK).cells (by omega)
  obtain ⟨b', o', rfl, hb', hc'⟩ := (HI'.out.keep hK).cells (by omega)
  obtain ⟨B, c, cj, hJ⟩ := hc j hlt
  obtain ⟨B', c', cj', hJ'⟩ := hc' j hlt
  clear hc hc'
  have hs : ∀ W, Keep [] wr W → _ := fun W hk => sameKind_any W B B' (m j) c (m' j) c' (f j) (f' j) (hJ.keep hk) (hJ'.keep hk)
  clear hJ hJ'
  by_cases he : SameI (m j) (f j) (m' j) (f' j)
  · rw [show decide (SameI (m j) (f j) (m' j) (f' j)) = true from decide_eq_true he] at hs
    have HE := Lib.hid he
    have HS := Lib.hid hs
    clear he hs
    go_wp2_with fail
    go_region_with (go_at_call 48; refine (HS.out _ (by repeat (first | exact Keep.refl _ _ | (with_reducible refine Keep.trans ?_ (Keep.drew _))))).mono ?_; rintro e w3 ⟨rfl, k3⟩)
    all_goals
      go_wp2
      go_roundw
      case rel => exact ⟨j + 1, by omega, by go_num, fun i hi => by
        rcases Nat.lt_or_ge i j with h | h
        · exact HO.out i h
        · rw [show i = j by omega]; exact HE.out, hK.trans ((Keep.drew _).trans k3)⟩
      case measure => simp [intOf]; omega
  · rw [show decide (SameI (m j) (f j) (m' j) (f' j)) = false from decide_eq_false he] at hs
    have HD := Lib.hid (show decide (SameC n m f b0 b1 b2 b3 r wk lg n m' f' b0 b1 b2 b3 r wk lg) = false from decide_eq_false (fun hx => he (hx.2.2.2.2.2 j hlt)))
    have HS := Lib.hid hs
    clear he hs
    go_wp2_with fail
    go_region_with (go_at_call 48; refine (HS.out _ (by repeat (first | exact Keep.refl _ _ | (with_reducible refine Keep.trans ?_ (Keep.drew _))))).mono ?_; rintro e w3 ⟨rfl, k3⟩)
    all_goals
      go_wp2
      go_ret
      exact ⟨by rw [HD.out]; rfl, K2.out.trans (hK.trans ((Keep.drew _).trans k3))⟩

/-- A config that a call told. -/
def CfgPost (C : Cf) (m : Nat → Nat) (f : Nat → Nat → Int) (w : World) (e : Ending) (w' : World) : Prop :=
  ∃ A cap, e = .returned (.agg #[.slice A C.n cap, .int .i64 C.b0, .int .i64 C.b1, .int .i64 C.b2, .int .i64 C.b3, .int .i64 C.r, .int .i64 C.wk, .int .i64 C.lg]) ∧ KRow w' A C.n cap m f ∧ Keep [] w w'

set_option maxHeartbeats 1000000 in
theorem config_l {w : World} {g : Nat} {C : Cf} {m : Nat → Nat} {f : Nat → Nat → Int} (h : Lyt w g C m f) (ok : C.Ok) (hm : ∀ i, i < C.n → m i ≤ 1000) :
    Calls Try.prog 22 #[.pointer (some ⟨g, 0, none⟩)] w (CfgPost C m f w) := by
  obtain ⟨A, cap, hb, hK⟩ := h
  have k1 : Keep [] w (w.alloc (.cells #[.slice none 0 0, .int .i64 0, .int .i64 0, .int .i64 0, .int .i64 0, .int .i64 0, .int .i64 0, .int .i64 0] 25)) := Keep.alloc _ _
  have hZ := Blk.new w 25 #[.slice none 0 0, .int .i64 0, .int .i64 0, .int .i64 0, .int .i64 0, .int .i64 0, .int .i64 0, .int .i64 0]
  have hc := copied_any _ A C.n cap m f C.b0 C.b1 C.b2 C.b3 C.r C.wk C.lg (by have := ok.n; omega) hm (hK.keep k1)
  have hb1 := hb.keep k1 (by simp)
  have q0 := (hb1.cell 0).trans (show _ = some (Value.slice A C.n cap) from rfl)
  have q1 := (hb1.cell 1).trans (show _ = some (Value.int .i64 C.b0) from rfl)
  have q2 := (hb1.cell 2).trans (show _ = some (Value.int .i64 C.b1) from rfl)
  have q3 := (hb1.cell 3).trans (show _ = some (Value.int .i64 C.b2) from rfl)
  have q4 := (hb1.cell 4).trans (show _ = some (Value.int .i64 C.b3) from rfl)
  have q5 := (hb1.cell 5).trans (show _ = some (Value.int .i64 C.r) from rfl)
  have q6 := (hb1.cell 6).trans (show _ = some (Value.int .i64 C.wk) from rfl)
  have q7 := (hb1.cell 7).trans (show _ = some (Value.int .i64 C.lg) from rfl)
  have hlt : g < w.heap.size := hb.lt
  clear hb hK hb1
  go_enter Try.func22, Try.ntmps22
  go_wp2_with fail
  (with_reducible refine hc.mono ?_)
  rintro e w2 ⟨A2, cap2, rfl, hN, k2⟩
  have hZ2 := hZ.keep k2 (by simp)
  clear q0 q1 q2 q3 q4 q5 q6 q7 hc
  have h1c : (#[.slice A2 C.n cap2, .int .i64 C.b0, .int .i64 C.b1, .int .i64 C.b2, .int .i64 C.b3, .int .i64 C.r, .int .i64 C.wk, .int .i64 C.lg] : Array Value).all (·.oneCell') = true := by first | kernel_rfl | simp [Value.oneCell']
  have k25 : (Try.prog.info? 25).map (·.size) = some (#[.slice A2 C.n cap2, .int .i64 C.b0, .int .i64 C.b1, .int .i64 C.b2, .int .i64 C.b3, .int .i64 C.r, .int .i64 C.wk, .int .i64 C.lg] : Array Value).size := by kernel_rfl
  go_wp2_with (refine wpList_store_row rfl 25 (.tmp 2) (.tmp 10) rfl w.heap.size #[.slice A2 C.n cap2, .int .i64 C.b0, .int .i64 C.b1, .int .i64 C.b2, .int .i64 C.b3, .int .i64 C.r, .int .i64 C.wk, .int .i64 C.lg] rfl rfl 25 #[.slice none 0 0, .int .i64 0, .int .i64 0, .int .i64 0, .int .i64 0, .int .i64 0, .int .i64 0, .int .i64 0] hZ2 k25 rfl h1c ?_)
  (try simp only [Exit.inBlock, Exit.then])
  refine bodyPost_ret (v := .agg #[.slice A2 C.n cap2, .int .i64 C.b0, .int .i64 C.b1, .int .i64 C.b2, .int .i64 C.b3, .int .i64 C.r, .int .i64 C.wk, .int .i64 C.lg]) ?_ rfl ?_
  · exact results_cell_row rfl _ _ w.heap.size 25 #[.slice A2 C.n cap2, .int .i64 C.b0, .int .i64 C.b1, .int .i64 C.b2, .int .i64 C.b3, .int .i64 C.r, .int .i64 C.wk, .int .i64 C.lg] (0, 0) _ rfl (setRow_heap _ _ _ _ _ _ hZ2) Try.underlying25 rfl k25
  have ks : Keep [w.heap.size] w2 (w2.setRow w.heap.size #[.slice A2 C.n cap2, .int .i64 C.b0, .int .i64 C.b1, .int .i64 C.b2, .int .i64 C.b3, .int .i64 C.r, .int .i64 C.wk, .int .i64 C.lg]) := Keep.setRow _ _ (by simp) _
  have hsz : (w.alloc (.cells #[.slice none 0 0, .int .i64 0, .int .i64 0, .int .i64 0, .int .i64 0, .int .i64 0, .int .i64 0, .int .i64 0] 25)).heap.size = w.heap.size + 1 := by simp
  have hno : ∀ k, (w.alloc (.cells #[.slice none 0 0, .int .i64 0, .int .i64 0, .int .i64 0, .int .i64 0, .int .i64 0, .int .i64 0, .int .i64 0] 25)).heap.size ≤ k → k ∉ [w.heap.size] := by
    intro k hk
    rw [hsz] at hk
    simp
    omega
  exact ⟨A2, cap2, rfl, (hN.keepO ks hno).krow, (k1.trans k2).since ks (by simp)⟩
end Go.Proofs.Ytihfejbkojhkaaa
