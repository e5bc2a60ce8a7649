/-
  slices.Clone of numbers; layout.copied: a config's kinds of its own. No conditions but what is in memory.
-/
import Derived.Test.YtbmnhngkmokklaaLay1
import Derived.Handy
namespace Go.Proofs.Ytbmnhngkmokklaa
open Go.RowKit Go.Flo Go.Bit
set_option maxRecDepth 100000

theorem addr_add0 (b o j : Nat) : (⟨b, o, none⟩ : Addr).add j = ⟨b, o + j, none⟩ := by unfold Addr.add; split <;> simp_all

theorem intparts : (Try.prog.info? 3).map (fun i => (i.zero, i.size, i.bytes)) = some (some (.int .i64 0), 1, 8) := by kernel_rfl

theorem kindparts : (Try.prog.info? 47).map (fun i => (i.zero, i.size, i.bytes)) = some (some (.agg #[.slice none 0 0]), 1, 24) := by kernel_rfl

theorem info_of {P : Program} {t : TypeId} {z : Option Value} {s b : Nat} (h : (P.info? t).map (fun i => (i.zero, i.size, i.bytes)) = some (z, s, b)) : ∃ i, P.info? t = some i ∧ i.zero = z ∧ i.size = s ∧ i.bytes = b := by
  cases hq : P.info? t with
  | none => simp [hq] at h
  | some i =>
    simp [hq] at h
    exact ⟨i, rfl, h.1, h.2.1, h.2.2⟩

/-- Numbers in memory that was not there. -/
def NewInts (m : Nat) (f : Nat → Int) (w : World) (e : Ending) (w' : World) : Prop :=
  ∃ A c, e = .returned (.slice A m c) ∧ Ints w' A m c f ∧ (∀ a, A = some a → w.heap.size ≤ a.block) ∧ Keep [] w w'

def iv (f : Nat → Int) (j : Nat) : Value := .int .i64 (f j)

theorem Ints.row {w : World} {g n cap : Nat} {f : Nat → Int} (h : Row w 3 g n cap (iv f)) : Ints w (some ⟨g, 0, none⟩) n cap f :=
  ⟨h.cap_le, fun e => by (cases e), by have := h.cap_max; unfold maxLen at this; omega, fun _ => ⟨g, 0, rfl, h.lt, fun j hj => by rw [Nat.zero_add]; exact h.cell hj⟩⟩

end Go.Proofs.Ytbmnhngkmokklaa
