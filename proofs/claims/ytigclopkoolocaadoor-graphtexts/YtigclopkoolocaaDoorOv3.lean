/-
  Package value: Of; the document's twin's ValueOf: what each returns. Conditions: what is in memory.
-/
import Derived.Test.YtigclopkoolocaaDoorOv2
namespace Go.Proofs.YtigclopkoolocaaDoor
open Go.RowKit Go.Flo
set_option maxRecDepth 100000

theorem _root_.Go.Flo.Keep.cellV {w w2 : World} {G i : Nat} {u : Value} (hk : Keep [] w w2) (hG : w.heap.size ≤ G) : Keep [] w (w2.setCell ⟨G, i, none⟩ u) :=
  ⟨hk.os, hk.tape, hk.output, Nat.le_trans hk.size (by simp [World.setCell]), fun k hlt _ => (Below.heap_setCell w2 ⟨G, i, none⟩ u k (by simp; omega)).trans (hk.block k hlt (by simp))⟩

end Go.Proofs.YtigclopkoolocaaDoor
