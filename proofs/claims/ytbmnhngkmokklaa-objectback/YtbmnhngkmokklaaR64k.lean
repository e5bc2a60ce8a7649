/-
  The document's twin: SameInts, SameKind (of R64, for seats without configs). No conditions but what is in memory.
-/
import Derived.Test.YtbmnhngkmokklaaR61
import Derived.Test.YtbmnhngkmokklaaLps1
namespace Go.Flo

/-- The same numbers. -/
def SameI (m : Nat) (f : Nat → Int) (m' : Nat) (f' : Nat → Int) : Prop := m = m' ∧ ∀ j, j < m → f j = f' j
instance (m : Nat) (f : Nat → Int) (m' : Nat) (f' : Nat → Int) : Decidable (SameI m f m' f') := by unfold SameI; infer_instance

/-- The same kinds. -/
def SameKs (n : Nat) (m : Nat → Nat) (f : Nat → Nat → Int) (n' : Nat) (m' : Nat → Nat) (f' : Nat → Nat → Int) : Prop := n = n' ∧ ∀ i, i < n → SameI (m i) (f i) (m' i) (f' i)
instance (n : Nat) (m : Nat → Nat) (f : Nat → Nat → Int) (n' : Nat) (m' : Nat → Nat) (f' : Nat → Nat → Int) : Decidable (SameKs n m f n' m' f') := by unfold SameKs; infer_instance

theorem SameKs.refl (n : Nat) (m : Nat → Nat) (f : Nat → Nat → Int) : SameKs n m f n m f := ⟨rfl, fun _ _ => ⟨rfl, fun _ _ => rfl⟩⟩
end Go.Flo
namespace Go.Proofs.Ytbmnhngkmokklaa
open Go.RowKit Go.Flo Go.Bit
set_option maxRecDepth 100000

def SiRel (w : World) (m : Nat) (f f' : Nat → Int) (x : Value) (wr : World) : Prop := ∃ j : Nat, j ≤ m ∧ x = .int .i64 j ∧ (∀ i, i < j → f i = f' i) ∧ Dr w wr

end Go.Proofs.Ytbmnhngkmokklaa
