/-
  No cell of these rows narrows 'for every input' (looked for: loops, veiled, ifaces, maps, wideKeys, modest, calm, conditions, laid).
  DERIVED. THE GIVEN ROWS OF THIS SEAT. 5 by the template 'for every input the law returns true; each argument reads behind the call as it read before'; 0 by the template 'total and deterministic' (their statements: YthgobelfijnfeaaTotals.lean).
  GIVEN WITH THE SEED: the statements are not yours to turn. If you find one false, say at which input.
  Laid BY PROGRAM, IN A SANDBOX (cutbox-rows.mjs): the forced cells as the released guide's own fill.sh prints them over the translation c488dbd4e2ef31b2… (all of the seat's roots in one cut). By AI agents, Wed Nov 11 2026. No macro, syntax, notation, axiom, sorry.
-/
import Derived.Test.YthgobelfijnfeaaChecked
import GoSem.Claim
import GoSem.ClaimJoined
import GoSem.ClaimMapViews
import Derived.JoinedTies
import Derived.KernelRfl
namespace Go.Proofs.Ythgobelfijnfeaa
/- THE CELL 'sum', in the pinned program and in every row, IS THE sha256 OF THE DUMP (.gsa) THAT YthgobelfijnfeaaProg.lean LOADS. Nothing in Lean hashes anything: it is a label: what it is worth is what the hold of that sum in a sandbox is worth. -/
noncomputable def Try.pinned : Pinned := { name := "ythgobelfijnfeaa", sum := "c488dbd4e2ef31b2b0bdde4089924d9df555ab76736be9f1817456038a8defef", checked := Try.checked }
namespace Rows
def none {H : Type} : Left H := { results := [], args := [] }

/-- 'scullionlaw9.HeaderMakes': WHATEVER THE INPUT: true; the input reads as it did. -/
def headerMakesSpec : ChangeSpec := { name := "headerMakes", fn := fun _ => fun
  | [d1, d2, d3, d4, d5] => { results := [.lit (.bool true)], args := [d1, d2, d3, d4, d5] }
  | _ => none }
def headerMakesRow : OpenClaim := { program := "ythgobelfijnfeaa", sum := "c488dbd4e2ef31b2b0bdde4089924d9df555ab76736be9f1817456038a8defef", func := "scullion/scullionlaw9.HeaderMakes", spec := "headerMakes", apart := false }
def HeaderMakesSaid : Prop := headerMakesRow.holds Try.pinned (OpenSpec.ofChange headerMakesSpec)

/-- ITS FALSE NEIGHBOUR: 'it returns false'. Refute it at one input. -/
def headerMakesWrong : ChangeSpec := { name := "headerMakes", fn := fun _ => fun
  | [d1, d2, d3, d4, d5] => { results := [.lit (.bool false)], args := [d1, d2, d3, d4, d5] }
  | _ => none }
def HeaderMakesWrongFalsely : Prop := headerMakesRow.holds Try.pinned (OpenSpec.ofChange headerMakesWrong)

/-- 'scullionlaw9.HeaderBack': WHATEVER THE INPUT: true; the input reads as it did. -/
def headerBackSpec : ChangeSpec := { name := "headerBack", fn := fun _ => fun
  | [d1, d2, d3, d4] => { results := [.lit (.bool true)], args := [d1, d2, d3, d4] }
  | _ => none }
def headerBackRow : OpenClaim := { program := "ythgobelfijnfeaa", sum := "c488dbd4e2ef31b2b0bdde4089924d9df555ab76736be9f1817456038a8defef", func := "scullion/scullionlaw9.HeaderBack", spec := "headerBack", apart := false }
def HeaderBackSaid : Prop := headerBackRow.holds Try.pinned (OpenSpec.ofChange headerBackSpec)

/-- ITS FALSE NEIGHBOUR: 'it returns false'. Refute it at one input. -/
def headerBackWrong : ChangeSpec := { name := "headerBack", fn := fun _ => fun
  | [d1, d2, d3, d4] => { results := [.lit (.bool false)], args := [d1, d2, d3, d4] }
  | _ => none }
def HeaderBackWrongFalsely : Prop := headerBackRow.holds Try.pinned (OpenSpec.ofChange headerBackWrong)

/-- 'scullionlaw9.HeaderMoves': WHATEVER THE INPUT: true; the input reads as it did. -/
def headerMovesSpec : ChangeSpec := { name := "headerMoves", fn := fun _ => fun
  | [d1, d2, d3] => { results := [.lit (.bool true)], args := [d1, d2, d3] }
  | _ => none }
def headerMovesRow : OpenClaim := { program := "ythgobelfijnfeaa", sum := "c488dbd4e2ef31b2b0bdde4089924d9df555ab76736be9f1817456038a8defef", func := "scullion/scullionlaw9.HeaderMoves", spec := "headerMoves", apart := false }
def HeaderMovesSaid : Prop := headerMovesRow.holds Try.pinned (OpenSpec.ofChange headerMovesSpec)

/-- ITS FALSE NEIGHBOUR: 'it returns false'. Refute it at one input. -/
def headerMovesWrong : ChangeSpec := { name := "headerMoves", fn := fun _ => fun
  | [d1, d2, d3] => { results := [.lit (.bool false)], args := [d1, d2, d3] }
  | _ => none }
def HeaderMovesWrongFalsely : Prop := headerMovesRow.holds Try.pinned (OpenSpec.ofChange headerMovesWrong)

/-- 'scullionlaw9.HeaderApart': WHATEVER THE INPUT: true; the input reads as it did. -/
def headerApartSpec : ChangeSpec := { name := "headerApart", fn := fun _ => fun
  | [d1, d2, d3, d4, d5, d6] => { results := [.lit (.bool true)], args := [d1, d2, d3, d4, d5, d6] }
  | _ => none }
def headerApartRow : OpenClaim := { program := "ythgobelfijnfeaa", sum := "c488dbd4e2ef31b2b0bdde4089924d9df555ab76736be9f1817456038a8defef", func := "scullion/scullionlaw9.HeaderApart", spec := "headerApart", apart := false }
def HeaderApartSaid : Prop := headerApartRow.holds Try.pinned (OpenSpec.ofChange headerApartSpec)

/-- ITS FALSE NEIGHBOUR: 'it returns false'. Refute it at one input. -/
def headerApartWrong : ChangeSpec := { name := "headerApart", fn := fun _ => fun
  | [d1, d2, d3, d4, d5, d6] => { results := [.lit (.bool false)], args := [d1, d2, d3, d4, d5, d6] }
  | _ => none }
def HeaderApartWrongFalsely : Prop := headerApartRow.holds Try.pinned (OpenSpec.ofChange headerApartWrong)

/-- 'scullionlaw9.HeaderTold': WHATEVER THE INPUT: true; the input reads as it did. -/
def headerToldSpec : ChangeSpec := { name := "headerTold", fn := fun _ => fun
  | [d] => { results := [.lit (.bool true)], args := [d] }
  | _ => none }
def headerToldRow : OpenClaim := { program := "ythgobelfijnfeaa", sum := "c488dbd4e2ef31b2b0bdde4089924d9df555ab76736be9f1817456038a8defef", func := "scullion/scullionlaw9.HeaderTold", spec := "headerTold", apart := false }
def HeaderToldSaid : Prop := headerToldRow.holds Try.pinned (OpenSpec.ofChange headerToldSpec)

/-- ITS FALSE NEIGHBOUR: 'it returns false'. Refute it at one input. -/
def headerToldWrong : ChangeSpec := { name := "headerTold", fn := fun _ => fun
  | [d] => { results := [.lit (.bool false)], args := [d] }
  | _ => none }
def HeaderToldWrongFalsely : Prop := headerToldRow.holds Try.pinned (OpenSpec.ofChange headerToldWrong)

/- THE SECOND FORM. 'bulk': how many values and letters a reading holds, each counted each time it is reached (what is shared counts as often as it is met; a slice's spare places count too). A statement '..UptoSaid' is the law's where the arguments, and the package variables that the reading takes, are together of bulk at most 1048576: NARROWER than '..Said'. Prove '..Said' where nothing that the law and all that it calls make is longer than what came in: it says more and counts as full. Else prove '..UptoSaid'. A law counts once. -/
mutual
def uptoBulk {H : Type} : DataW H → Nat
  | .lit (.string bytes) => bytes.length + 1
  | .lit _ => 1
  | .nil => 1
  | .ptr d => uptoBulk d + 1
  | .slice elems spare => uptoBulkAll elems + uptoBulkAll spare + 1
  | .agg parts => uptoBulkAll parts + 1
  | .iface _ d => uptoBulk d + 1
  | .map entries => uptoBulkEntries entries + 1
  | .held _ => 1
def uptoBulkAll {H : Type} : List (DataW H) → Nat
  | [] => 0
  | d :: r => uptoBulk d + uptoBulkAll r
def uptoBulkEntries {H : Type} : List (Lit × DataW H) → Nat
  | [] => 0
  | x :: r => uptoBulkEntry x + uptoBulkEntries r
def uptoBulkEntry {H : Type} : Lit × DataW H → Nat
  | (.string bytes, d) => bytes.length + uptoBulk d + 1
  | (_, d) => uptoBulk d + 1
 end
def uptoSmall : (H : Type) → List (DataW H) → Bool := fun _ ds => decide (uptoBulkAll ds ≤ 1048576)
def OpenSpec.upto (s : _root_.Go.ChangeSpec) : _root_.Go.OpenSpec := { _root_.Go.OpenSpec.ofChange s with cond := some uptoSmall }

/-- 'scullionlaw9.HeaderMakes', WHERE WHAT IT READS IS OF BULK AT MOST 1048576: true; the input reads as it did. -/
def headerMakesUptoRow : OpenClaim := { program := "ythgobelfijnfeaa", sum := "c488dbd4e2ef31b2b0bdde4089924d9df555ab76736be9f1817456038a8defef", func := "scullion/scullionlaw9.HeaderMakes", spec := "headerMakes", apart := false, narrowed := true }
def HeaderMakesUptoSaid : Prop := headerMakesUptoRow.holds Try.pinned (OpenSpec.upto headerMakesSpec)

/-- 'scullionlaw9.HeaderBack', WHERE WHAT IT READS IS OF BULK AT MOST 1048576: true; the input reads as it did. -/
def headerBackUptoRow : OpenClaim := { program := "ythgobelfijnfeaa", sum := "c488dbd4e2ef31b2b0bdde4089924d9df555ab76736be9f1817456038a8defef", func := "scullion/scullionlaw9.HeaderBack", spec := "headerBack", apart := false, narrowed := true }
def HeaderBackUptoSaid : Prop := headerBackUptoRow.holds Try.pinned (OpenSpec.upto headerBackSpec)

/-- 'scullionlaw9.HeaderMoves', WHERE WHAT IT READS IS OF BULK AT MOST 1048576: true; the input reads as it did. -/
def headerMovesUptoRow : OpenClaim := { program := "ythgobelfijnfeaa", sum := "c488dbd4e2ef31b2b0bdde4089924d9df555ab76736be9f1817456038a8defef", func := "scullion/scullionlaw9.HeaderMoves", spec := "headerMoves", apart := false, narrowed := true }
def HeaderMovesUptoSaid : Prop := headerMovesUptoRow.holds Try.pinned (OpenSpec.upto headerMovesSpec)

/-- 'scullionlaw9.HeaderApart', WHERE WHAT IT READS IS OF BULK AT MOST 1048576: true; the input reads as it did. -/
def headerApartUptoRow : OpenClaim := { program := "ythgobelfijnfeaa", sum := "c488dbd4e2ef31b2b0bdde4089924d9df555ab76736be9f1817456038a8defef", func := "scullion/scullionlaw9.HeaderApart", spec := "headerApart", apart := false, narrowed := true }
def HeaderApartUptoSaid : Prop := headerApartUptoRow.holds Try.pinned (OpenSpec.upto headerApartSpec)

/-- 'scullionlaw9.HeaderTold', WHERE WHAT IT READS IS OF BULK AT MOST 1048576: true; the input reads as it did. -/
def headerToldUptoRow : OpenClaim := { program := "ythgobelfijnfeaa", sum := "c488dbd4e2ef31b2b0bdde4089924d9df555ab76736be9f1817456038a8defef", func := "scullion/scullionlaw9.HeaderTold", spec := "headerTold", apart := false, narrowed := true }
def HeaderToldUptoSaid : Prop := headerToldUptoRow.holds Try.pinned (OpenSpec.upto headerToldSpec)

end Rows
end Go.Proofs.Ythgobelfijnfeaa
