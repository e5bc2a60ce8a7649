/-
  A function that goes round by a goto: the law of such a round, as the walks use it. No program is named here. No conditions.
-/
import Derived.WalkKit
import Derived.WalkMore
import Derived.ScopeJumps
namespace Go.Flo

/-- A scope whose run comes to a label, and then goes round by a goto: what holds at the label each time (J), and a measure. -/
theorem wp_scope_round {P : Program} {a : Act} {w : World} {Q : Exit → Act → World → Prop} {c rest : Code} (l : Nat) (J : Act → World → Prop) (μ : Act → World → Nat) (hf : findLabel c l = some (Code.skip.seq rest))
    (pass : ∀ a w, J a w → rest.wp P (Exit.jump l (fun a' w' => J a' w' ∧ μ a' w' < μ a w) Q) a w)
    (first : (∀ a w, J a w → rest.wp P (Exit.jump l J Q) a w) → c.wp P (Exit.jump l J Q) a w) : (Code.scope c).wp P Q a w :=
  wp_scope_jumps l J μ hf (first fun a w hJ => wp_mono (pass a w hJ) fun e a' w' h => by
    cases e with
    | goto l' => exact ⟨h.1, h.2.1⟩
    | _ => exact h) fun a w hJ => wp_seq (wp_skip (pass a w hJ))

theorem jump_ret {l : Nat} {J : Act → World → Prop} {Q : Exit → Act → World → Prop} {a : Act} {w : World} (h : Q .ret a w) : Exit.jump l J Q .ret a w := h
theorem jump_goto {l : Nat} {J : Act → World → Prop} {Q : Exit → Act → World → Prop} {a : Act} {w : World} (h : J a w) : Exit.jump l J Q (.goto l) a w := ⟨rfl, h⟩

/-- The number in a slot, as a measure. -/
def slotNat (k : Nat) (a : Act) : Nat := match a.tmps.getD k undef with
  | .int _ n => n.toNat
  | _ => 0
end Go.Flo
