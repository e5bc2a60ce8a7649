/-
  A region that draws its order, whose operations read and whose callees leave all that was there: one walk, in the order of the text. Plain facts, no Go text in sight. No conditions.
-/
import Derived.Test.YtigclopkoolocaaDoorMem
import Derived.BigQuiet
import Derived.Deep.QuietTactic
namespace Go.Flo
open Go.RowKit

/-- A world that has grown. -/
structure KW (w0 : World) where
  w : World
  hk : Keep [] w0 w

instance (w0 : World) : Nonempty (KW w0) := ⟨⟨w0, Keep.refl _ _⟩⟩

theorem KW.cell {w0 : World} {b o : Nat} {v : Value} (h : w0.cell? ⟨b, o, none⟩ = some v) (x : KW w0) : x.w.cell? ⟨b, o, none⟩ = some v :=
  (x.hk.cell (p := ⟨b, o, none⟩) (World.block_lt_of_cell? w0 _ h) (by simp)).trans h
theorem KW.call {P : Program} {f : FuncId} {args : Array Value} {w0 : World} {x : KW w0} {v : Value} (h : Calls P f args x.w fun e w' => e = .returned v ∧ Keep [] x.w w') :
    Calls P f args x.w fun e w'' => e = .returned v ∧ ∃ y : KW w0, w'' = y.w :=
  h.mono fun _ w' ⟨a, b⟩ => ⟨a, ⟨w', x.hk.trans b⟩, rfl⟩

theorem wp_region_grow {P : Program} {id : Nat} {Q : Exit → Act → World → Prop} {a : Act} {w : World} {l : List Oper} (hm : P.follows .mixedOrders = true) (hB : Region.lexB .any l.toArray = true)
    (h : wpQuiet P l.toArray (fun w' => ∃ x : KW w, w' = x.w) (fun a' => ∀ w', (∃ x : KW w, w' = x.w) → Q .normal a' w') l a) : (Code.region id l.toArray true).wp P Q a w :=
  wp_region_quiet (C := fun w' => ∃ x : KW w, w' = x.w) hm hB ⟨⟨{ w with drawn := w.drawn + 1 }, ⟨rfl, rfl, rfl, Nat.le_refl _, fun _ _ _ => rfl⟩⟩, rfl⟩ (by simpa using h)
end Go.Flo
