/-
  A row's cells as a list of its own name. No conditions.
-/
import Derived.Test.YtejhdmpobaffcaaTwo
namespace Go.Proofs.Ytejhdmpobaffcaa
open Go.RowKit Go.Flo
set_option maxRecDepth 100000

/-- A row's cells, as a list of its own name. -/
def rowR (n : Nat) (f : Nat → Int) : List Value := (List.range n).map (u64 f)
theorem rowR_len (n : Nat) (f : Nat → Int) : (rowR n f).length = n := by simp [rowR]
theorem rowR_get {n j : Nat} {f : Nat → Int} {u : Value} (h : (rowR n f)[j]? = some u) : j < n ∧ u = u64 f j := by
  have hj : j < n := by
    have := (List.getElem?_eq_some_iff.1 h).1
    rwa [rowR_len] at this
  refine ⟨hj, ?_⟩
  unfold rowR at h
  simp [hj] at h
  exact h.symm
theorem rowR_row {w : World} {B n : Nat} {v : Value} {f : Nat → Int} (h : w.ownsRow B 44 1 v n (rowR n f)) (hn : 0 < n) : ∃ g cap, v = .slice (some ⟨g, 0, none⟩) n cap ∧ Row w 44 g n cap (u64 f) ∧ B ≤ g := by
  obtain ⟨_, h2⟩ := id h
  rcases h2 with ⟨_, h2⟩ | ⟨g, cap, cur, rfl, hg, _⟩
  · omega
  · exact ⟨g, cap, rfl, Row.of_owns h, hg⟩
theorem rowR_cells {w : World} {g n cap : Nat} {f : Nat → Int} (h : Row w 44 g n cap (u64 f)) : ∀ j u, (rowR n f)[j]? = some u → w.cell? ((⟨g, 0, none⟩ : Addr).add j) = some u := by
  intro j u hu
  obtain ⟨hj, rfl⟩ := rowR_get hu
  exact h.cellAdd hj
theorem rowR_one (n : Nat) (f : Nat → Int) : ∀ u ∈ rowR n f, u.oneCell' = true := by
  intro u hu
  unfold rowR at hu
  simp only [List.mem_map, List.mem_range] at hu
  obtain ⟨j, _, rfl⟩ := hu
  rfl
/-- A new row out of nil: nothing that was there has turned. -/
theorem nil_keptR {w w' : World} {row : Option Nat} (hg : w.grownBy w' row) (hr : row = none) : Keep [] w w' := Keep.grown hg (fun k _ e => by rw [hr] at e; cases e)
end Go.Proofs.Ytejhdmpobaffcaa
