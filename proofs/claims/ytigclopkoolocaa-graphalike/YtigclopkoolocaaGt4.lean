/-
  What GraphAlike's junk leans on: one node more, at the end, that no root reaches. No conditions but each theorem's own.
-/
import Derived.Test.YtigclopkoolocaaGt3
import Derived.Test.YtigclopkoolocaaSas
namespace Go.Flo
open Go.RowKit Go.Bit Go.Proofs.Ytigclopkoolocaa

theorem snoc_nodl {w : World} {B : Nat} {tn : TypeId} {v : Value} {L : List Nod} {vs : Nat → Value} {KJ : Int} {AJ : Option Addr} {cj : Nat} {fj : List Val} {n0 qj : Nat} (hn : L.length = n0) (hq : fj.length = qj)
    (h1 : w.ownsRow B tn 2 v (n0 + 1) (nodC n0 (fun i => (L.getD i nod0).K) vs ++ [.int .i64 KJ, .slice AJ qj cj]))
    (h2 : ∀ i, i < n0 → ∃ A' c', vs i = .slice A' (L.getD i nod0).fs.length c' ∧ Vals w A' (L.getD i nod0).fs.length c' (fun j => (L.getD i nod0).fs.getD j z0))
    (h3 : Vals w AJ qj cj (fun j => fj.getD j z0)) : ∃ A c, v = .slice A (n0 + 1) c ∧ NodL w A c (L ++ [⟨KJ, fj⟩]) := by
  subst hn
  subst hq
  have hl : (L ++ [(⟨KJ, fj⟩ : Nod)]).length = L.length + 1 := by simp
  have hat : ∀ i, i < L.length → (L ++ [(⟨KJ, fj⟩ : Nod)]).getD i nod0 = L.getD i nod0 := fun i hi => by
    rw [List.getD_eq_getElem?_getD, List.getElem?_append_left hi, List.getD_eq_getElem?_getD]
  have hla : (L ++ [(⟨KJ, fj⟩ : Nod)]).getD L.length nod0 = ⟨KJ, fj⟩ := by
    rw [List.getD_eq_getElem?_getD, List.getElem?_append_right (Nat.le_refl _)]; simp
  have hc : nodC L.length (fun i => (L.getD i nod0).K) vs ++ [.int .i64 KJ, .slice AJ fj.length cj] = nodC (L.length + 1) (fun i => ((L ++ [(⟨KJ, fj⟩ : Nod)]).getD i nod0).K) (fun i => if i = L.length then .slice AJ fj.length cj else vs i) := by
    rw [nodC_succ]
    rw [hla, if_pos rfl]
    congr 1
    exact nodC_congr (fun i hi => ⟨by rw [hat i hi], by rw [if_neg (by omega)]⟩)
  rw [hc] at h1
  obtain ⟨A, c, e, hN⟩ := nodl_of_row (L := L ++ [⟨KJ, fj⟩]) (vs := fun i => if i = L.length then .slice AJ fj.length cj else vs i) (by rw [hl]; exact h1) (fun i hi => by
    rw [hl] at hi
    by_cases e : i = L.length
    · subst e
      rw [hla, if_pos rfl]
      exact ⟨AJ, cj, rfl, h3⟩
    · rw [hat i (by omega), if_neg e]
      exact h2 i (by omega))
  rw [hl] at e
  exact ⟨A, c, e, hN⟩

theorem snoc_slim {g : Gr} {KJ : Int} {fj : List Val} (h : Slim g) (hq : fj.length ≤ 65536) : Slim ⟨g.nodes ++ [⟨KJ, fj⟩], g.roots, g.weaks⟩ := by
  refine ⟨h.1, h.2.1, fun i hi => ?_⟩
  show ((g.nodes ++ [(⟨KJ, fj⟩ : Nod)]).getD i nod0).fs.length ≤ 65536
  have hi' : i < (g.nodes ++ [(⟨KJ, fj⟩ : Nod)]).length := hi
  rw [List.length_append] at hi'
  simp only [List.length_cons, List.length_nil] at hi'
  by_cases e : i < g.nodes.length
  · rw [List.getD_eq_getElem?_getD, List.getElem?_append_left e, ← List.getD_eq_getElem?_getD]
    exact h.2.2 i e
  · obtain rfl : i = g.nodes.length := by omega
    rw [List.getD_eq_getElem?_getD, List.getElem?_append_right (Nat.le_refl _)]
    simpa using hq

theorem snoc_alike {g : Gr} (l : List Nod) (h : MayG g) (hj : MayG ⟨g.nodes ++ l, g.roots, g.weaks⟩) : AlikeG g ⟨g.nodes ++ l, g.roots, g.weaks⟩ := ⟨h, hj, (beside_trim l h).symm⟩

/-- A step's world, named. -/
theorem at_world {P : Program} {c : Prop} {inst : Decidable c} {o : Oper} {a : Act} {K : Act → World → Prop} {Q : Exit → Act → World → Prop} {E : Prop} (w : World) (h : if c then Oper.wp P o a w K Q else E) : if c then Oper.wp P o a w K Q else E := h

theorem alloc_sz (w : World) (o : Obj) : (w.alloc o).heap.size = w.heap.size + 1 := by simp
end Go.Flo
