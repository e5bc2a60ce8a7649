/-
  Package layout: the small functions: size, parts, lineEnd, fieldAt, number, redo.Need, mayKind, mayKinds, mayBlocks, mayRoots, mayLog. No conditions but what is in memory.
-/
import Derived.Test.YtbmnhngkmokklaaLarr
import Derived.LoopN
import Derived.Deep.DeepCutAuto
import Derived.StillTailTactics
import Derived.OwnWalk
namespace Go.Proofs.Ytbmnhngkmokklaa
open Go.RowKit Go.Flo Go.Bit
set_option maxRecDepth 100000

theorem ret_bool {a b : Bool} (h : a = b) : Ending.returned (.bool a) = .returned (.bool b) := by rw [h]

def MkRel (m : Nat) (f : Nat → Int) (x y : Value) : Prop := ∃ j : Nat, j ≤ m ∧ y = .int .i64 j ∧ x = .int .i64 (sumF f j : Nat) ∧ ∀ i, i < j → OkF (f i)

def MksRel (w : World) (n : Nat) (m : Nat → Nat) (f : Nat → Nat → Int) (x : Value) (wr : World) : Prop := ∃ j : Nat, j ≤ n ∧ x = .int .i64 j ∧ (∀ i, i < j → MayK (m i) (f i)) ∧ Keep [] w wr

end Go.Proofs.Ytbmnhngkmokklaa
