/-
  Arguments that came in: rows of numbers: what a walk is told of them. No conditions.
-/
import Derived.Test.YtolighoceecheaaCarg
namespace Go.Proofs.Ytolighoceecheaa
open Go.RowKit Go.Flo Go.ChangeShapes Go.WideShapes Go.Deep
set_option maxRecDepth 100000

section
variable {H : Type} {enc : TypeId × Value → H} {w : World} {base : Nat} {held : Bool}

theorem open_list {v : Value} {d : DataW H} {p : List MemPlace} (h : DataW.Trod enc Try.prog w base (fun _ => true) held 22 v d p) (hv : v.cells = #[v]) : ∃ (a : Option Addr) (len cap : Nat) (f : Nat → Int), v = .slice a len cap ∧ Ints w a len cap f := by
  obtain ⟨fuel, hf⟩ := h
  rw [hv] at hf
  exact open_nums hf
end
end Go.Proofs.Ytolighoceecheaa
