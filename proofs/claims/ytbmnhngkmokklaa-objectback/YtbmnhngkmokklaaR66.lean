/-
  The document's twin of layout: KindWord, ParseKind. No conditions but what is in memory.
-/
import Derived.Test.YtbmnhngkmokklaaR61
import Derived.Test.YtbmnhngkmokklaaLps1
import Derived.OwnWalk
namespace Go.Proofs.Ytbmnhngkmokklaa
open Go.RowKit Go.Flo Go.Bit
set_option maxRecDepth 100000

theorem or_nat (x y : Nat) (hx : x < 18446744073709551616) (hy : y < 18446744073709551616) : bits BinOp.or IntKind.u64 (x : Int) (y : Int) = ((x ||| y : Nat) : Int) := bits_or_u64_nat x y hx hy

/-- What ParseKind tells. -/
def RPk (x : Nat) : Prop := MayK (pm x) (pf x) ∧ Up x
instance (x : Nat) : Decidable (RPk x) := by unfold RPk; infer_instance

def RPkYes (x : Nat) (w : World) (e : Ending) (w' : World) : Prop :=
  ∃ A c, e = .returned (.tuple #[.agg #[.slice A (pm x) c], .bool true]) ∧ Ints w' A (pm x) c (pf x) ∧ (∀ a, A = some a → w.heap.size ≤ a.block) ∧ Keep [] w w'

/-- Behind an append to a row from B on. -/
theorem grown_keep {w0 w w' : World} {B n size : Nat} {t : TypeId} {v : Value} {xs : List Value} (h : Keep [] w0 w) (hB : w0.heap.size ≤ B) (hown : w.ownsRow B t size v n xs) (hg : w.grownBy w' v.ownBlock) : Keep [] w0 w' := by
  rcases hown.2 with ⟨rfl, _⟩ | ⟨g, cap, cur, rfl, hgB, _⟩
  · exact h.trans (Keep.grown hg (fun k _ e => by simp [Value.ownBlock] at e))
  · exact h.since (own := [g]) (Keep.grown hg (fun k _ e => by simp [Value.ownBlock] at e; simp [e])) (by simp; omega)

theorem grown_blk {w w' : World} {B n size g : Nat} {t t' : TypeId} {v : Value} {xs : List Value} {cs : Array Value} (h : Blk w g t' cs) (hB : g < B) (hown : w.ownsRow B t size v n xs) (hg : w.grownBy w' v.ownBlock) : Blk w' g t' cs := by
  rcases hown.2 with ⟨rfl, _⟩ | ⟨g', cap, cur, rfl, hgB, _⟩
  · exact h.keep (own := []) (Keep.grown hg (fun k _ e => by simp [Value.ownBlock] at e)) (by simp)
  · exact h.keep (own := [g']) (Keep.grown hg (fun k _ e => by simp [Value.ownBlock] at e; simp [e])) (by simp; omega)

theorem owns_ints {w : World} {B n : Nat} {v : Value} {f : Nat → Int} (h : w.ownsRow B 3 1 v n ((List.range n).map (iv f))) : ∃ A c, v = .slice A n c ∧ Ints w A n c f ∧ ∀ a, A = some a → B ≤ a.block := by
  rcases h.2 with ⟨rfl, h0⟩ | ⟨g, cap, cur, rfl, hg, _⟩
  · have : n = 0 := by first | exact h0 | exact h0.1 | exact h0.2
    subst this
    exact ⟨none, 0, rfl, Ints.none _ _, fun a e => by cases e⟩
  · exact ⟨some ⟨g, 0, none⟩, cap, rfl, Ints.row (Row.of_owns h), fun a e => by injection e with e; subst e; exact hg⟩

theorem owns_kept {w w' : World} {B n size : Nat} {t : TypeId} {v : Value} {xs : List Value} (hown : w.ownsRow B t size v n xs) (hk : Keep [] w w') : w'.ownsRow B t size v n xs := by
  refine ⟨hown.1, ?_⟩
  rcases hown.2 with h | ⟨g, cap, cur, h1, h2, h3, h4⟩
  · exact Or.inl h
  · refine Or.inr ⟨g, cap, cur, h1, h2, ?_, h4⟩
    rw [hk.block g (by rcases Nat.lt_or_ge g w.heap.size with h | h; exact h; rw [Array.getElem?_eq_none h] at h3; cases h3) (by simp)]
    exact h3
end Go.Proofs.Ytbmnhngkmokklaa
