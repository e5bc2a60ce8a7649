/-
  The document's twin: SameInts, SameKind (of R64, for seats without configs). No conditions but what is in memory.
-/
import Derived.Test.YtolighoceecheaaR61
import Derived.Test.YtolighoceecheaaLps1
namespace Go.Flo

/-- The same numbers. -/
def SameI (m : Nat) (f : Nat → Int) (m' : Nat) (f' : Nat → Int) : Prop := m = m' ∧ ∀ j, j < m → f j = f' j
instance (m : Nat) (f : Nat → Int) (m' : Nat) (f' : Nat → Int) : Decidable (SameI m f m' f') := by unfold SameI; infer_instance

/-- The same kinds. -/
def SameKs (n : Nat) (m : Nat → Nat) (f : Nat → Nat → Int) (n' : Nat) (m' : Nat → Nat) (f' : Nat → Nat → Int) : Prop := n = n' ∧ ∀ i, i < n → SameI (m i) (f i) (m' i) (f' i)
instance (n : Nat) (m : Nat → Nat) (f : Nat → Nat → Int) (n' : Nat) (m' : Nat → Nat) (f' : Nat → Nat → Int) : Decidable (SameKs n m f n' m' f') := by unfold SameKs; infer_instance

theorem SameKs.refl (n : Nat) (m : Nat → Nat) (f : Nat → Nat → Int) : SameKs n m f n m f := ⟨rfl, fun _ _ => ⟨rfl, fun _ _ => rfl⟩⟩
end Go.Flo
namespace Go.Proofs.Ytolighoceecheaa
open Go.RowKit Go.Flo Go.Bit
set_option maxRecDepth 100000

def SiRel (w : World) (m : Nat) (f f' : Nat → Int) (x : Value) (wr : World) : Prop := ∃ j : Nat, j ≤ m ∧ x = .int .i64 j ∧ (∀ i, i < j → f i = f' i) ∧ Dr w wr

set_option maxHeartbeats 1000000 in
theorem sameInts_any (w : World) (A A' : Option Addr) (m c m' c' : Nat) (f f' : Nat → Int) (h : Ints w A m c f) (h' : Ints w A' m' c' f') :
    Calls Try.prog 15 #[.slice A m c, .slice A' m' c'] w fun e w' => e = .returned (.bool (decide (SameI m f m' f'))) ∧ Dr w w' := by
  by_cases c1 : m = m'
  case neg =>
    rw [show decide (SameI m f m' f') = false from decide_eq_false (fun h => c1 h.1)]
    have c2 : ((m : Int) == (m' : Int)) = false := by simp; omega
    go_enter Try.func15, Try.ntmps15
    go_wp2
    go_ret
    exact ⟨rfl, Dr.refl _⟩
  subst c1
  have HI := Lib.hid h
  have HI' := Lib.hid h'
  have hcm := h.nc
  have hcc := h.cap
  clear h h'
  go_enter Try.func15, Try.ntmps15
  go_wp2
  go_loopw [13] (fun x wr => SiRel w m f f' x wr) (fun x _ => m - (intOf x).toNat)
  case atStart => exact ⟨0, by omega, rfl, fun i hi => by omega, Dr.refl _⟩
  case round =>
  obtain ⟨j, hj, rfl, hok, hD⟩ := hrel
  have HO := Lib.hid hok
  clear hok
  by_cases hlt : j < m
  case neg =>
    obtain rfl : j = m := by omega
    have HD := Lib.hid (show decide (SameI j f j f') = true from decide_eq_true ⟨rfl, HO.out⟩)
    go_wp2
    go_ret
    exact ⟨by rw [HD.out]; rfl, hD⟩
  obtain ⟨b, o, rfl, hb, hc⟩ := (HI.out.keep (Keep.dr hD)).cells (by omega)
  obtain ⟨b', o', rfl, hb', hc'⟩ := (HI'.out.keep (Keep.dr hD)).cells (by omega)
  have cj := hc j hlt
  have cj' := hc' j hlt
  clear hc hc'
  by_cases he : f j = f' j
  · have HE := Lib.hid he
    have he2 : (f j == f' j) = true := by simp [he]
    clear he
    go_wp2_with fail
    go_quiet (fail)
    go_wp2
    go_roundw
    case rel => exact ⟨j + 1, by omega, by go_num, fun i hi => by
      rcases Nat.lt_or_ge i j with h | h
      · exact HO.out i h
      · rw [show i = j by omega]; exact HE.out, hD.trans (Dr.drewN _ _)⟩
    case measure => simp [intOf]; omega
  · have he2 : (f j == f' j) = false := by simp [he]
    have HD := Lib.hid (show decide (SameI m f m f') = false from decide_eq_false (fun hx => he (hx.2 j hlt)))
    clear he
    go_wp2_with fail
    go_quiet (fail)
    go_wp2
    go_ret
    exact ⟨by rw [HD.out]; rfl, hD.trans (Dr.drewN _ _)⟩

theorem sameKind_any (w : World) (A A' : Option Addr) (m c m' c' : Nat) (f f' : Nat → Int) (h : Ints w A m c f) (h' : Ints w A' m' c' f') :
    Calls Try.prog 20 #[.agg #[.slice A m c], .agg #[.slice A' m' c']] w fun e w' => e = .returned (.bool (decide (SameI m f m' f'))) ∧ Keep [] w w' := by
  have k1 : Keep [] w (w.alloc (.cells #[.slice A m c] 25)) := Keep.alloc _ _
  have k2 : Keep [] w ((w.alloc (.cells #[.slice A m c] 25)).alloc (.cells #[.slice A' m' c'] 25)) := k1.trans (Keep.alloc _ _)
  have hs := sameInts_any _ A A' m c m' c' f f' (h.keep k2) (h'.keep k2)
  clear h h'
  go_enter Try.func20, Try.ntmps20
  go_wp2_with fail
  (with_reducible refine hs.mono ?_)
  rintro e w3 ⟨rfl, d3⟩
  go_wp2
  go_ret
  exact ⟨rfl, k2.trans (Keep.dr d3)⟩
end Go.Proofs.Ytolighoceecheaa
