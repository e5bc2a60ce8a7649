/-
  No cell of these rows narrows 'for every input' (looked for: loops, veiled, ifaces, maps, wideKeys, modest, calm, conditions, laid).
  DERIVED. THE GIVEN ROWS OF THIS SEAT. 6 by the template 'for every input the law returns true; each argument reads behind the call as it read before'; 0 by the template 'total and deterministic' (their statements: YtejepiobdkbgpaaTotals.lean).
  GIVEN WITH THE SEED: the statements are not yours to turn. If you find one false, say at which input.
  Laid BY PROGRAM, IN A SANDBOX (cutbox-rows.mjs): the forced cells as the released guide's own fill.sh prints them over the translation c8e6a787af4e8440… (all of the seat's roots in one cut). By AI agents, Wed Nov 11 2026. No macro, syntax, notation, axiom, sorry.
-/
import Derived.Test.YtejepiobdkbgpaaChecked
import GoSem.Claim
import GoSem.ClaimJoined
import GoSem.ClaimMapViews
import Derived.JoinedTies
import Derived.KernelRfl
namespace Go.Proofs.Ytejepiobdkbgpaa
/- THE CELL 'sum', in the pinned program and in every row, IS THE sha256 OF THE DUMP (.gsa) THAT YtejepiobdkbgpaaProg.lean LOADS. Nothing in Lean hashes anything: it is a label: what it is worth is what the hold of that sum in a sandbox is worth. -/
noncomputable def Try.pinned : Pinned := { name := "ytejepiobdkbgpaa", sum := "c8e6a787af4e8440591fe82b0025ceda1a6b72a413ea584dacc2d0282f0652c6", checked := Try.checked }
namespace Rows
def none {H : Type} : Left H := { results := [], args := [] }

/-- 'scullionlaw13.HandlePlays': WHATEVER THE INPUT: true; the input reads as it did. -/
def handlePlaysSpec : ChangeSpec := { name := "handlePlays", fn := fun _ => fun
  | [d] => { results := [.lit (.bool true)], args := [d] }
  | _ => none }
def handlePlaysRow : OpenClaim := { program := "ytejepiobdkbgpaa", sum := "c8e6a787af4e8440591fe82b0025ceda1a6b72a413ea584dacc2d0282f0652c6", func := "scullion/scullionlaw13.HandlePlays", spec := "handlePlays", apart := false }
def HandlePlaysSaid : Prop := handlePlaysRow.holds Try.pinned (OpenSpec.ofChange handlePlaysSpec)

/-- ITS FALSE NEIGHBOUR: 'it returns false'. Refute it at one input. -/
def handlePlaysWrong : ChangeSpec := { name := "handlePlays", fn := fun _ => fun
  | [d] => { results := [.lit (.bool false)], args := [d] }
  | _ => none }
def HandlePlaysWrongFalsely : Prop := handlePlaysRow.holds Try.pinned (OpenSpec.ofChange handlePlaysWrong)

/-- 'scullionlaw13.HandleMany': WHATEVER THE INPUT: true; the input reads as it did. -/
def handleManySpec : ChangeSpec := { name := "handleMany", fn := fun _ => fun
  | [d1, d2] => { results := [.lit (.bool true)], args := [d1, d2] }
  | _ => none }
def handleManyRow : OpenClaim := { program := "ytejepiobdkbgpaa", sum := "c8e6a787af4e8440591fe82b0025ceda1a6b72a413ea584dacc2d0282f0652c6", func := "scullion/scullionlaw13.HandleMany", spec := "handleMany", apart := false }
def HandleManySaid : Prop := handleManyRow.holds Try.pinned (OpenSpec.ofChange handleManySpec)

/-- ITS FALSE NEIGHBOUR: 'it returns false'. Refute it at one input. -/
def handleManyWrong : ChangeSpec := { name := "handleMany", fn := fun _ => fun
  | [d1, d2] => { results := [.lit (.bool false)], args := [d1, d2] }
  | _ => none }
def HandleManyWrongFalsely : Prop := handleManyRow.holds Try.pinned (OpenSpec.ofChange handleManyWrong)

/-- 'scullionlaw13.HandleNil': WHATEVER THE INPUT: true; the input reads as it did. -/
def handleNilSpec : ChangeSpec := { name := "handleNil", fn := fun _ => fun
  | [d] => { results := [.lit (.bool true)], args := [d] }
  | _ => none }
def handleNilRow : OpenClaim := { program := "ytejepiobdkbgpaa", sum := "c8e6a787af4e8440591fe82b0025ceda1a6b72a413ea584dacc2d0282f0652c6", func := "scullion/scullionlaw13.HandleNil", spec := "handleNil", apart := false }
def HandleNilSaid : Prop := handleNilRow.holds Try.pinned (OpenSpec.ofChange handleNilSpec)

/-- ITS FALSE NEIGHBOUR: 'it returns false'. Refute it at one input. -/
def handleNilWrong : ChangeSpec := { name := "handleNil", fn := fun _ => fun
  | [d] => { results := [.lit (.bool false)], args := [d] }
  | _ => none }
def HandleNilWrongFalsely : Prop := handleNilRow.holds Try.pinned (OpenSpec.ofChange handleNilWrong)

/-- 'scullionlaw13.HandleStale': WHATEVER THE INPUT: true; the input reads as it did. -/
def handleStaleSpec : ChangeSpec := { name := "handleStale", fn := fun _ => fun
  | [d] => { results := [.lit (.bool true)], args := [d] }
  | _ => none }
def handleStaleRow : OpenClaim := { program := "ytejepiobdkbgpaa", sum := "c8e6a787af4e8440591fe82b0025ceda1a6b72a413ea584dacc2d0282f0652c6", func := "scullion/scullionlaw13.HandleStale", spec := "handleStale", apart := false }
def HandleStaleSaid : Prop := handleStaleRow.holds Try.pinned (OpenSpec.ofChange handleStaleSpec)

/-- ITS FALSE NEIGHBOUR: 'it returns false'. Refute it at one input. -/
def handleStaleWrong : ChangeSpec := { name := "handleStale", fn := fun _ => fun
  | [d] => { results := [.lit (.bool false)], args := [d] }
  | _ => none }
def HandleStaleWrongFalsely : Prop := handleStaleRow.holds Try.pinned (OpenSpec.ofChange handleStaleWrong)

/-- 'scullionlaw13.HandleMoves': WHATEVER THE INPUT: true; the input reads as it did. -/
def handleMovesSpec : ChangeSpec := { name := "handleMoves", fn := fun _ => fun
  | [d1, d2, d3] => { results := [.lit (.bool true)], args := [d1, d2, d3] }
  | _ => none }
def handleMovesRow : OpenClaim := { program := "ytejepiobdkbgpaa", sum := "c8e6a787af4e8440591fe82b0025ceda1a6b72a413ea584dacc2d0282f0652c6", func := "scullion/scullionlaw13.HandleMoves", spec := "handleMoves", apart := false }
def HandleMovesSaid : Prop := handleMovesRow.holds Try.pinned (OpenSpec.ofChange handleMovesSpec)

/-- ITS FALSE NEIGHBOUR: 'it returns false'. Refute it at one input. -/
def handleMovesWrong : ChangeSpec := { name := "handleMoves", fn := fun _ => fun
  | [d1, d2, d3] => { results := [.lit (.bool false)], args := [d1, d2, d3] }
  | _ => none }
def HandleMovesWrongFalsely : Prop := handleMovesRow.holds Try.pinned (OpenSpec.ofChange handleMovesWrong)

/-- 'scullionlaw13.HandleLeast': WHATEVER THE INPUT: true; the input reads as it did. -/
def handleLeastSpec : ChangeSpec := { name := "handleLeast", fn := fun _ => fun
  | [d1, d2] => { results := [.lit (.bool true)], args := [d1, d2] }
  | _ => none }
def handleLeastRow : OpenClaim := { program := "ytejepiobdkbgpaa", sum := "c8e6a787af4e8440591fe82b0025ceda1a6b72a413ea584dacc2d0282f0652c6", func := "scullion/scullionlaw13.HandleLeast", spec := "handleLeast", apart := false }
def HandleLeastSaid : Prop := handleLeastRow.holds Try.pinned (OpenSpec.ofChange handleLeastSpec)

/-- ITS FALSE NEIGHBOUR: 'it returns false'. Refute it at one input. -/
def handleLeastWrong : ChangeSpec := { name := "handleLeast", fn := fun _ => fun
  | [d1, d2] => { results := [.lit (.bool false)], args := [d1, d2] }
  | _ => none }
def HandleLeastWrongFalsely : Prop := handleLeastRow.holds Try.pinned (OpenSpec.ofChange handleLeastWrong)

/- THE SECOND FORM. 'bulk': how many values and letters a reading holds, each counted each time it is reached (what is shared counts as often as it is met; a slice's spare places count too). A statement '..UptoSaid' is the law's where the arguments, and the package variables that the reading takes, are together of bulk at most 1048576: NARROWER than '..Said'. Prove '..Said' where nothing that the law and all that it calls make is longer than what came in: it says more and counts as full. Else prove '..UptoSaid'. A law counts once. -/
mutual
def uptoBulk {H : Type} : DataW H → Nat
  | .lit (.string bytes) => bytes.length + 1
  | .lit _ => 1
  | .nil => 1
  | .ptr d => uptoBulk d + 1
  | .slice elems spare => uptoBulkAll elems + uptoBulkAll spare + 1
  | .agg parts => uptoBulkAll parts + 1
  | .iface _ d => uptoBulk d + 1
  | .map entries => uptoBulkEntries entries + 1
  | .held _ => 1
def uptoBulkAll {H : Type} : List (DataW H) → Nat
  | [] => 0
  | d :: r => uptoBulk d + uptoBulkAll r
def uptoBulkEntries {H : Type} : List (Lit × DataW H) → Nat
  | [] => 0
  | x :: r => uptoBulkEntry x + uptoBulkEntries r
def uptoBulkEntry {H : Type} : Lit × DataW H → Nat
  | (.string bytes, d) => bytes.length + uptoBulk d + 1
  | (_, d) => uptoBulk d + 1
 end
def uptoSmall : (H : Type) → List (DataW H) → Bool := fun _ ds => decide (uptoBulkAll ds ≤ 1048576)
def OpenSpec.upto (s : _root_.Go.ChangeSpec) : _root_.Go.OpenSpec := { _root_.Go.OpenSpec.ofChange s with cond := some uptoSmall }

/-- 'scullionlaw13.HandlePlays', WHERE WHAT IT READS IS OF BULK AT MOST 1048576: true; the input reads as it did. -/
def handlePlaysUptoRow : OpenClaim := { program := "ytejepiobdkbgpaa", sum := "c8e6a787af4e8440591fe82b0025ceda1a6b72a413ea584dacc2d0282f0652c6", func := "scullion/scullionlaw13.HandlePlays", spec := "handlePlays", apart := false, narrowed := true }
def HandlePlaysUptoSaid : Prop := handlePlaysUptoRow.holds Try.pinned (OpenSpec.upto handlePlaysSpec)

/-- 'scullionlaw13.HandleMany', WHERE WHAT IT READS IS OF BULK AT MOST 1048576: true; the input reads as it did. -/
def handleManyUptoRow : OpenClaim := { program := "ytejepiobdkbgpaa", sum := "c8e6a787af4e8440591fe82b0025ceda1a6b72a413ea584dacc2d0282f0652c6", func := "scullion/scullionlaw13.HandleMany", spec := "handleMany", apart := false, narrowed := true }
def HandleManyUptoSaid : Prop := handleManyUptoRow.holds Try.pinned (OpenSpec.upto handleManySpec)

/-- 'scullionlaw13.HandleNil', WHERE WHAT IT READS IS OF BULK AT MOST 1048576: true; the input reads as it did. -/
def handleNilUptoRow : OpenClaim := { program := "ytejepiobdkbgpaa", sum := "c8e6a787af4e8440591fe82b0025ceda1a6b72a413ea584dacc2d0282f0652c6", func := "scullion/scullionlaw13.HandleNil", spec := "handleNil", apart := false, narrowed := true }
def HandleNilUptoSaid : Prop := handleNilUptoRow.holds Try.pinned (OpenSpec.upto handleNilSpec)

/-- 'scullionlaw13.HandleStale', WHERE WHAT IT READS IS OF BULK AT MOST 1048576: true; the input reads as it did. -/
def handleStaleUptoRow : OpenClaim := { program := "ytejepiobdkbgpaa", sum := "c8e6a787af4e8440591fe82b0025ceda1a6b72a413ea584dacc2d0282f0652c6", func := "scullion/scullionlaw13.HandleStale", spec := "handleStale", apart := false, narrowed := true }
def HandleStaleUptoSaid : Prop := handleStaleUptoRow.holds Try.pinned (OpenSpec.upto handleStaleSpec)

/-- 'scullionlaw13.HandleMoves', WHERE WHAT IT READS IS OF BULK AT MOST 1048576: true; the input reads as it did. -/
def handleMovesUptoRow : OpenClaim := { program := "ytejepiobdkbgpaa", sum := "c8e6a787af4e8440591fe82b0025ceda1a6b72a413ea584dacc2d0282f0652c6", func := "scullion/scullionlaw13.HandleMoves", spec := "handleMoves", apart := false, narrowed := true }
def HandleMovesUptoSaid : Prop := handleMovesUptoRow.holds Try.pinned (OpenSpec.upto handleMovesSpec)

/-- 'scullionlaw13.HandleLeast', WHERE WHAT IT READS IS OF BULK AT MOST 1048576: true; the input reads as it did. -/
def handleLeastUptoRow : OpenClaim := { program := "ytejepiobdkbgpaa", sum := "c8e6a787af4e8440591fe82b0025ceda1a6b72a413ea584dacc2d0282f0652c6", func := "scullion/scullionlaw13.HandleLeast", spec := "handleLeast", apart := false, narrowed := true }
def HandleLeastUptoSaid : Prop := handleLeastUptoRow.holds Try.pinned (OpenSpec.upto handleLeastSpec)

end Rows
end Go.Proofs.Ytejepiobdkbgpaa
