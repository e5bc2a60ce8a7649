/-
  What the statements' own twin of Parse returns, for every text: the same as cplx.Parse. No conditions.
-/
import Derived.Test.YtigclopkoolocaaDoorParse
namespace Go.Proofs.YtigclopkoolocaaDoor
open Go.RowKit Go.Flo

theorem dv_cases (c : Nat) : (48 ≤ c ∧ c ≤ 57 ∧ dv c = some (c - 48)) ∨ (97 ≤ c ∧ c ≤ 102 ∧ dv c = some (c - 87)) ∨ (c < 48 ∧ dv c = none) ∨ (57 < c ∧ c < 97 ∧ dv c = none) ∨ (102 < c ∧ dv c = none) := by
  unfold dv
  by_cases h1 : 48 ≤ c ∧ c ≤ 57
  · exact Or.inl ⟨h1.1, h1.2, by rw [if_pos h1]⟩
  by_cases h2 : 97 ≤ c ∧ c ≤ 102
  · exact Or.inr (Or.inl ⟨h2.1, h2.2, by rw [if_neg h1, if_pos h2]⟩)
  · rw [if_neg h1, if_neg h2]
    by_cases h3 : c < 48
    · exact Or.inr (Or.inr (Or.inl ⟨h3, rfl⟩))
    by_cases h4 : c < 97
    · exact Or.inr (Or.inr (Or.inr (Or.inl ⟨by omega, h4, rfl⟩)))
    · exact Or.inr (Or.inr (Or.inr (Or.inr ⟨by omega, rfl⟩)))

end Go.Proofs.YtigclopkoolocaaDoor
