/-
  No cell of these rows narrows 'for every input' (looked for: loops, veiled, ifaces, maps, wideKeys, modest, calm, conditions, laid).
  DERIVED. THE GIVEN ROWS OF THIS SEAT. 9 by the template 'for every input the law returns true; each argument reads behind the call as it read before'; 0 by the template 'total and deterministic' (their statements: YtejhdmpobaffcaaTotals.lean).
  GIVEN WITH THE SEED: the statements are not yours to turn. If you find one false, say at which input.
  Laid BY PROGRAM, IN A SANDBOX (cutbox-rows.mjs): the forced cells as the released guide's own fill.sh prints them over the translation f57d354a6bf3afd0… (all of the seat's roots in one cut). By AI agents, Wed Nov 11 2026. No macro, syntax, notation, axiom, sorry.
-/
import Derived.Test.YtejhdmpobaffcaaChecked
import GoSem.Claim
import GoSem.ClaimJoined
import GoSem.ClaimMapViews
import Derived.JoinedTies
import Derived.KernelRfl
namespace Go.Proofs.Ytejhdmpobaffcaa
/- THE CELL 'sum', in the pinned program and in every row, IS THE sha256 OF THE DUMP (.gsa) THAT YtejhdmpobaffcaaProg.lean LOADS. Nothing in Lean hashes anything: it is a label: what it is worth is what the hold of that sum in a sandbox is worth. -/
noncomputable def Try.pinned : Pinned := { name := "ytejhdmpobaffcaa", sum := "f57d354a6bf3afd0e2ef69a9a7c368c77e28649840aa160abad71867c6a5b6e0", checked := Try.checked }
namespace Rows
def none {H : Type} : Left H := { results := [], args := [] }

/-- 'scullionlaw4.RedoNeed': WHATEVER THE INPUT: true; the input reads as it did. -/
def redoNeedSpec : ChangeSpec := { name := "redoNeed", fn := fun _ => fun
  | [d] => { results := [.lit (.bool true)], args := [d] }
  | _ => none }
def redoNeedRow : OpenClaim := { program := "ytejhdmpobaffcaa", sum := "f57d354a6bf3afd0e2ef69a9a7c368c77e28649840aa160abad71867c6a5b6e0", func := "scullion/scullionlaw4.RedoNeed", spec := "redoNeed", apart := false }
def RedoNeedSaid : Prop := redoNeedRow.holds Try.pinned (OpenSpec.ofChange redoNeedSpec)

/-- ITS FALSE NEIGHBOUR: 'it returns false'. Refute it at one input. -/
def redoNeedWrong : ChangeSpec := { name := "redoNeed", fn := fun _ => fun
  | [d] => { results := [.lit (.bool false)], args := [d] }
  | _ => none }
def RedoNeedWrongFalsely : Prop := redoNeedRow.holds Try.pinned (OpenSpec.ofChange redoNeedWrong)

/-- 'scullionlaw4.RedoWrites': WHATEVER THE INPUT: true; the input reads as it did. -/
def redoWritesSpec : ChangeSpec := { name := "redoWrites", fn := fun _ => fun
  | [d1, d2, d3, d4, d5] => { results := [.lit (.bool true)], args := [d1, d2, d3, d4, d5] }
  | _ => none }
def redoWritesRow : OpenClaim := { program := "ytejhdmpobaffcaa", sum := "f57d354a6bf3afd0e2ef69a9a7c368c77e28649840aa160abad71867c6a5b6e0", func := "scullion/scullionlaw4.RedoWrites", spec := "redoWrites", apart := false }
def RedoWritesSaid : Prop := redoWritesRow.holds Try.pinned (OpenSpec.ofChange redoWritesSpec)

/-- ITS FALSE NEIGHBOUR: 'it returns false'. Refute it at one input. -/
def redoWritesWrong : ChangeSpec := { name := "redoWrites", fn := fun _ => fun
  | [d1, d2, d3, d4, d5] => { results := [.lit (.bool false)], args := [d1, d2, d3, d4, d5] }
  | _ => none }
def RedoWritesWrongFalsely : Prop := redoWritesRow.holds Try.pinned (OpenSpec.ofChange redoWritesWrong)

/-- 'scullionlaw4.RedoRecovers': WHATEVER THE INPUT: true; the input reads as it did. -/
def redoRecoversSpec : ChangeSpec := { name := "redoRecovers", fn := fun _ => fun
  | [d1, d2, d3, d4, d5, d6] => { results := [.lit (.bool true)], args := [d1, d2, d3, d4, d5, d6] }
  | _ => none }
def redoRecoversRow : OpenClaim := { program := "ytejhdmpobaffcaa", sum := "f57d354a6bf3afd0e2ef69a9a7c368c77e28649840aa160abad71867c6a5b6e0", func := "scullion/scullionlaw4.RedoRecovers", spec := "redoRecovers", apart := false }
def RedoRecoversSaid : Prop := redoRecoversRow.holds Try.pinned (OpenSpec.ofChange redoRecoversSpec)

/-- ITS FALSE NEIGHBOUR: 'it returns false'. Refute it at one input. -/
def redoRecoversWrong : ChangeSpec := { name := "redoRecovers", fn := fun _ => fun
  | [d1, d2, d3, d4, d5, d6] => { results := [.lit (.bool false)], args := [d1, d2, d3, d4, d5, d6] }
  | _ => none }
def RedoRecoversWrongFalsely : Prop := redoRecoversRow.holds Try.pinned (OpenSpec.ofChange redoRecoversWrong)

/-- 'scullionlaw4.RedoNil': WHATEVER THE INPUT: true; the input reads as it did. -/
def redoNilSpec : ChangeSpec := { name := "redoNil", fn := fun _ => fun
  | [d1, d2, d3] => { results := [.lit (.bool true)], args := [d1, d2, d3] }
  | _ => none }
def redoNilRow : OpenClaim := { program := "ytejhdmpobaffcaa", sum := "f57d354a6bf3afd0e2ef69a9a7c368c77e28649840aa160abad71867c6a5b6e0", func := "scullion/scullionlaw4.RedoNil", spec := "redoNil", apart := false }
def RedoNilSaid : Prop := redoNilRow.holds Try.pinned (OpenSpec.ofChange redoNilSpec)

/-- ITS FALSE NEIGHBOUR: 'it returns false'. Refute it at one input. -/
def redoNilWrong : ChangeSpec := { name := "redoNil", fn := fun _ => fun
  | [d1, d2, d3] => { results := [.lit (.bool false)], args := [d1, d2, d3] }
  | _ => none }
def RedoNilWrongFalsely : Prop := redoNilRow.holds Try.pinned (OpenSpec.ofChange redoNilWrong)

/-- 'scullionlaw4.RedoCrashes': WHATEVER THE INPUT: true; the input reads as it did. -/
def redoCrashesSpec : ChangeSpec := { name := "redoCrashes", fn := fun _ => fun
  | [d1, d2, d3, d4] => { results := [.lit (.bool true)], args := [d1, d2, d3, d4] }
  | _ => none }
def redoCrashesRow : OpenClaim := { program := "ytejhdmpobaffcaa", sum := "f57d354a6bf3afd0e2ef69a9a7c368c77e28649840aa160abad71867c6a5b6e0", func := "scullion/scullionlaw4.RedoCrashes", spec := "redoCrashes", apart := false }
def RedoCrashesSaid : Prop := redoCrashesRow.holds Try.pinned (OpenSpec.ofChange redoCrashesSpec)

/-- ITS FALSE NEIGHBOUR: 'it returns false'. Refute it at one input. -/
def redoCrashesWrong : ChangeSpec := { name := "redoCrashes", fn := fun _ => fun
  | [d1, d2, d3, d4] => { results := [.lit (.bool false)], args := [d1, d2, d3, d4] }
  | _ => none }
def RedoCrashesWrongFalsely : Prop := redoCrashesRow.holds Try.pinned (OpenSpec.ofChange redoCrashesWrong)

/-- 'scullionlaw4.RedoGoes': WHATEVER THE INPUT: true; the input reads as it did. -/
def redoGoesSpec : ChangeSpec := { name := "redoGoes", fn := fun _ => fun
  | [d1, d2, d3] => { results := [.lit (.bool true)], args := [d1, d2, d3] }
  | _ => none }
def redoGoesRow : OpenClaim := { program := "ytejhdmpobaffcaa", sum := "f57d354a6bf3afd0e2ef69a9a7c368c77e28649840aa160abad71867c6a5b6e0", func := "scullion/scullionlaw4.RedoGoes", spec := "redoGoes", apart := false }
def RedoGoesSaid : Prop := redoGoesRow.holds Try.pinned (OpenSpec.ofChange redoGoesSpec)

/-- ITS FALSE NEIGHBOUR: 'it returns false'. Refute it at one input. -/
def redoGoesWrong : ChangeSpec := { name := "redoGoes", fn := fun _ => fun
  | [d1, d2, d3] => { results := [.lit (.bool false)], args := [d1, d2, d3] }
  | _ => none }
def RedoGoesWrongFalsely : Prop := redoGoesRow.holds Try.pinned (OpenSpec.ofChange redoGoesWrong)

/-- 'scullionlaw4.RedoRefused': WHATEVER THE INPUT: true; the input reads as it did. -/
def redoRefusedSpec : ChangeSpec := { name := "redoRefused", fn := fun _ => fun
  | [d1, d2, d3] => { results := [.lit (.bool true)], args := [d1, d2, d3] }
  | _ => none }
def redoRefusedRow : OpenClaim := { program := "ytejhdmpobaffcaa", sum := "f57d354a6bf3afd0e2ef69a9a7c368c77e28649840aa160abad71867c6a5b6e0", func := "scullion/scullionlaw4.RedoRefused", spec := "redoRefused", apart := false }
def RedoRefusedSaid : Prop := redoRefusedRow.holds Try.pinned (OpenSpec.ofChange redoRefusedSpec)

/-- ITS FALSE NEIGHBOUR: 'it returns false'. Refute it at one input. -/
def redoRefusedWrong : ChangeSpec := { name := "redoRefused", fn := fun _ => fun
  | [d1, d2, d3] => { results := [.lit (.bool false)], args := [d1, d2, d3] }
  | _ => none }
def RedoRefusedWrongFalsely : Prop := redoRefusedRow.holds Try.pinned (OpenSpec.ofChange redoRefusedWrong)

/-- 'scullionlaw4.RedoLast': WHATEVER THE INPUT: true; the input reads as it did. -/
def redoLastSpec : ChangeSpec := { name := "redoLast", fn := fun _ => fun
  | [d1, d2] => { results := [.lit (.bool true)], args := [d1, d2] }
  | _ => none }
def redoLastRow : OpenClaim := { program := "ytejhdmpobaffcaa", sum := "f57d354a6bf3afd0e2ef69a9a7c368c77e28649840aa160abad71867c6a5b6e0", func := "scullion/scullionlaw4.RedoLast", spec := "redoLast", apart := false }
def RedoLastSaid : Prop := redoLastRow.holds Try.pinned (OpenSpec.ofChange redoLastSpec)

/-- ITS FALSE NEIGHBOUR: 'it returns false'. Refute it at one input. -/
def redoLastWrong : ChangeSpec := { name := "redoLast", fn := fun _ => fun
  | [d1, d2] => { results := [.lit (.bool false)], args := [d1, d2] }
  | _ => none }
def RedoLastWrongFalsely : Prop := redoLastRow.holds Try.pinned (OpenSpec.ofChange redoLastWrong)

/-- 'scullionlaw4.RedoSteps': WHATEVER THE INPUT: true; the input reads as it did. -/
def redoStepsSpec : ChangeSpec := { name := "redoSteps", fn := fun _ => fun
  | [d1, d2] => { results := [.lit (.bool true)], args := [d1, d2] }
  | _ => none }
def redoStepsRow : OpenClaim := { program := "ytejhdmpobaffcaa", sum := "f57d354a6bf3afd0e2ef69a9a7c368c77e28649840aa160abad71867c6a5b6e0", func := "scullion/scullionlaw4.RedoSteps", spec := "redoSteps", apart := false }
def RedoStepsSaid : Prop := redoStepsRow.holds Try.pinned (OpenSpec.ofChange redoStepsSpec)

/-- ITS FALSE NEIGHBOUR: 'it returns false'. Refute it at one input. -/
def redoStepsWrong : ChangeSpec := { name := "redoSteps", fn := fun _ => fun
  | [d1, d2] => { results := [.lit (.bool false)], args := [d1, d2] }
  | _ => none }
def RedoStepsWrongFalsely : Prop := redoStepsRow.holds Try.pinned (OpenSpec.ofChange redoStepsWrong)

/- THE SECOND FORM. 'bulk': how many values and letters a reading holds, each counted each time it is reached (what is shared counts as often as it is met; a slice's spare places count too). A statement '..UptoSaid' is the law's where the arguments, and the package variables that the reading takes, are together of bulk at most 1048576: NARROWER than '..Said'. Prove '..Said' where nothing that the law and all that it calls make is longer than what came in: it says more and counts as full. Else prove '..UptoSaid'. A law counts once. -/
mutual
def uptoBulk {H : Type} : DataW H → Nat
  | .lit (.string bytes) => bytes.length + 1
  | .lit _ => 1
  | .nil => 1
  | .ptr d => uptoBulk d + 1
  | .slice elems spare => uptoBulkAll elems + uptoBulkAll spare + 1
  | .agg parts => uptoBulkAll parts + 1
  | .iface _ d => uptoBulk d + 1
  | .map entries => uptoBulkEntries entries + 1
  | .held _ => 1
def uptoBulkAll {H : Type} : List (DataW H) → Nat
  | [] => 0
  | d :: r => uptoBulk d + uptoBulkAll r
def uptoBulkEntries {H : Type} : List (Lit × DataW H) → Nat
  | [] => 0
  | x :: r => uptoBulkEntry x + uptoBulkEntries r
def uptoBulkEntry {H : Type} : Lit × DataW H → Nat
  | (.string bytes, d) => bytes.length + uptoBulk d + 1
  | (_, d) => uptoBulk d + 1
 end
def uptoSmall : (H : Type) → List (DataW H) → Bool := fun _ ds => decide (uptoBulkAll ds ≤ 1048576)
def OpenSpec.upto (s : _root_.Go.ChangeSpec) : _root_.Go.OpenSpec := { _root_.Go.OpenSpec.ofChange s with cond := some uptoSmall }

/-- 'scullionlaw4.RedoNeed', WHERE WHAT IT READS IS OF BULK AT MOST 1048576: true; the input reads as it did. -/
def redoNeedUptoRow : OpenClaim := { program := "ytejhdmpobaffcaa", sum := "f57d354a6bf3afd0e2ef69a9a7c368c77e28649840aa160abad71867c6a5b6e0", func := "scullion/scullionlaw4.RedoNeed", spec := "redoNeed", apart := false, narrowed := true }
def RedoNeedUptoSaid : Prop := redoNeedUptoRow.holds Try.pinned (OpenSpec.upto redoNeedSpec)

/-- 'scullionlaw4.RedoWrites', WHERE WHAT IT READS IS OF BULK AT MOST 1048576: true; the input reads as it did. -/
def redoWritesUptoRow : OpenClaim := { program := "ytejhdmpobaffcaa", sum := "f57d354a6bf3afd0e2ef69a9a7c368c77e28649840aa160abad71867c6a5b6e0", func := "scullion/scullionlaw4.RedoWrites", spec := "redoWrites", apart := false, narrowed := true }
def RedoWritesUptoSaid : Prop := redoWritesUptoRow.holds Try.pinned (OpenSpec.upto redoWritesSpec)

/-- 'scullionlaw4.RedoRecovers', WHERE WHAT IT READS IS OF BULK AT MOST 1048576: true; the input reads as it did. -/
def redoRecoversUptoRow : OpenClaim := { program := "ytejhdmpobaffcaa", sum := "f57d354a6bf3afd0e2ef69a9a7c368c77e28649840aa160abad71867c6a5b6e0", func := "scullion/scullionlaw4.RedoRecovers", spec := "redoRecovers", apart := false, narrowed := true }
def RedoRecoversUptoSaid : Prop := redoRecoversUptoRow.holds Try.pinned (OpenSpec.upto redoRecoversSpec)

/-- 'scullionlaw4.RedoNil', WHERE WHAT IT READS IS OF BULK AT MOST 1048576: true; the input reads as it did. -/
def redoNilUptoRow : OpenClaim := { program := "ytejhdmpobaffcaa", sum := "f57d354a6bf3afd0e2ef69a9a7c368c77e28649840aa160abad71867c6a5b6e0", func := "scullion/scullionlaw4.RedoNil", spec := "redoNil", apart := false, narrowed := true }
def RedoNilUptoSaid : Prop := redoNilUptoRow.holds Try.pinned (OpenSpec.upto redoNilSpec)

/-- 'scullionlaw4.RedoCrashes', WHERE WHAT IT READS IS OF BULK AT MOST 1048576: true; the input reads as it did. -/
def redoCrashesUptoRow : OpenClaim := { program := "ytejhdmpobaffcaa", sum := "f57d354a6bf3afd0e2ef69a9a7c368c77e28649840aa160abad71867c6a5b6e0", func := "scullion/scullionlaw4.RedoCrashes", spec := "redoCrashes", apart := false, narrowed := true }
def RedoCrashesUptoSaid : Prop := redoCrashesUptoRow.holds Try.pinned (OpenSpec.upto redoCrashesSpec)

/-- 'scullionlaw4.RedoGoes', WHERE WHAT IT READS IS OF BULK AT MOST 1048576: true; the input reads as it did. -/
def redoGoesUptoRow : OpenClaim := { program := "ytejhdmpobaffcaa", sum := "f57d354a6bf3afd0e2ef69a9a7c368c77e28649840aa160abad71867c6a5b6e0", func := "scullion/scullionlaw4.RedoGoes", spec := "redoGoes", apart := false, narrowed := true }
def RedoGoesUptoSaid : Prop := redoGoesUptoRow.holds Try.pinned (OpenSpec.upto redoGoesSpec)

/-- 'scullionlaw4.RedoRefused', WHERE WHAT IT READS IS OF BULK AT MOST 1048576: true; the input reads as it did. -/
def redoRefusedUptoRow : OpenClaim := { program := "ytejhdmpobaffcaa", sum := "f57d354a6bf3afd0e2ef69a9a7c368c77e28649840aa160abad71867c6a5b6e0", func := "scullion/scullionlaw4.RedoRefused", spec := "redoRefused", apart := false, narrowed := true }
def RedoRefusedUptoSaid : Prop := redoRefusedUptoRow.holds Try.pinned (OpenSpec.upto redoRefusedSpec)

/-- 'scullionlaw4.RedoLast', WHERE WHAT IT READS IS OF BULK AT MOST 1048576: true; the input reads as it did. -/
def redoLastUptoRow : OpenClaim := { program := "ytejhdmpobaffcaa", sum := "f57d354a6bf3afd0e2ef69a9a7c368c77e28649840aa160abad71867c6a5b6e0", func := "scullion/scullionlaw4.RedoLast", spec := "redoLast", apart := false, narrowed := true }
def RedoLastUptoSaid : Prop := redoLastUptoRow.holds Try.pinned (OpenSpec.upto redoLastSpec)

/-- 'scullionlaw4.RedoSteps', WHERE WHAT IT READS IS OF BULK AT MOST 1048576: true; the input reads as it did. -/
def redoStepsUptoRow : OpenClaim := { program := "ytejhdmpobaffcaa", sum := "f57d354a6bf3afd0e2ef69a9a7c368c77e28649840aa160abad71867c6a5b6e0", func := "scullion/scullionlaw4.RedoSteps", spec := "redoSteps", apart := false, narrowed := true }
def RedoStepsUptoSaid : Prop := redoStepsUptoRow.holds Try.pinned (OpenSpec.upto redoStepsSpec)

end Rows
end Go.Proofs.Ytejhdmpobaffcaa
