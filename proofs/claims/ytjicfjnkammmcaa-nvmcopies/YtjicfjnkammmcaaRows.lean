/-
  No cell of these rows narrows 'for every input' (looked for: loops, veiled, ifaces, maps, wideKeys, modest, calm, conditions, laid).
  DERIVED. THE GIVEN ROWS OF THIS SEAT. 8 by the template 'for every input the law returns true; each argument reads behind the call as it read before'; 0 by the template 'total and deterministic' (their statements: YtjicfjnkammmcaaTotals.lean).
  GIVEN WITH THE SEED: the statements are not yours to turn. If you find one false, say at which input.
  Laid BY PROGRAM, IN A SANDBOX (cutbox-rows.mjs): the forced cells as the released guide's own fill.sh prints them over the translation 8fc7ef6119f23a94… (all of the seat's roots in one cut). By AI agents, Wed Nov 11 2026. No macro, syntax, notation, axiom, sorry.
-/
import Derived.Test.YtjicfjnkammmcaaChecked
import GoSem.Claim
import GoSem.ClaimJoined
import GoSem.ClaimMapViews
import Derived.JoinedTies
import Derived.KernelRfl
namespace Go.Proofs.Ytjicfjnkammmcaa
/- THE CELL 'sum', in the pinned program and in every row, IS THE sha256 OF THE DUMP (.gsa) THAT YtjicfjnkammmcaaProg.lean LOADS. Nothing in Lean hashes anything: it is a label: what it is worth is what the hold of that sum in a sandbox is worth. -/
noncomputable def Try.pinned : Pinned := { name := "ytjicfjnkammmcaa", sum := "8fc7ef6119f23a9493280c1b4e271d22eac91929e7606015dc4b6d9a3d01c8fd", checked := Try.checked }
namespace Rows
def none {H : Type} : Left H := { results := [], args := [] }

/-- 'scullionlaw3.NvmPlays': WHATEVER THE INPUT: true; the input reads as it did. -/
def nvmPlaysSpec : ChangeSpec := { name := "nvmPlays", fn := fun _ => fun
  | [d1, d2] => { results := [.lit (.bool true)], args := [d1, d2] }
  | _ => none }
def nvmPlaysRow : OpenClaim := { program := "ytjicfjnkammmcaa", sum := "8fc7ef6119f23a9493280c1b4e271d22eac91929e7606015dc4b6d9a3d01c8fd", func := "scullion/scullionlaw3.NvmPlays", spec := "nvmPlays", apart := false }
def NvmPlaysSaid : Prop := nvmPlaysRow.holds Try.pinned (OpenSpec.ofChange nvmPlaysSpec)

/-- ITS FALSE NEIGHBOUR: 'it returns false'. Refute it at one input. -/
def nvmPlaysWrong : ChangeSpec := { name := "nvmPlays", fn := fun _ => fun
  | [d1, d2] => { results := [.lit (.bool false)], args := [d1, d2] }
  | _ => none }
def NvmPlaysWrongFalsely : Prop := nvmPlaysRow.holds Try.pinned (OpenSpec.ofChange nvmPlaysWrong)

/-- 'scullionlaw3.NvmCopies': WHATEVER THE INPUT: true; the input reads as it did. -/
def nvmCopiesSpec : ChangeSpec := { name := "nvmCopies", fn := fun _ => fun
  | [d1, d2, d3] => { results := [.lit (.bool true)], args := [d1, d2, d3] }
  | _ => none }
def nvmCopiesRow : OpenClaim := { program := "ytjicfjnkammmcaa", sum := "8fc7ef6119f23a9493280c1b4e271d22eac91929e7606015dc4b6d9a3d01c8fd", func := "scullion/scullionlaw3.NvmCopies", spec := "nvmCopies", apart := false }
def NvmCopiesSaid : Prop := nvmCopiesRow.holds Try.pinned (OpenSpec.ofChange nvmCopiesSpec)

/-- ITS FALSE NEIGHBOUR: 'it returns false'. Refute it at one input. -/
def nvmCopiesWrong : ChangeSpec := { name := "nvmCopies", fn := fun _ => fun
  | [d1, d2, d3] => { results := [.lit (.bool false)], args := [d1, d2, d3] }
  | _ => none }
def NvmCopiesWrongFalsely : Prop := nvmCopiesRow.holds Try.pinned (OpenSpec.ofChange nvmCopiesWrong)

/-- 'scullionlaw3.NvmNew': WHATEVER THE INPUT: true; the input reads as it did. -/
def nvmNewSpec : ChangeSpec := { name := "nvmNew", fn := fun _ => fun
  | [d1, d2, d3, d4] => { results := [.lit (.bool true)], args := [d1, d2, d3, d4] }
  | _ => none }
def nvmNewRow : OpenClaim := { program := "ytjicfjnkammmcaa", sum := "8fc7ef6119f23a9493280c1b4e271d22eac91929e7606015dc4b6d9a3d01c8fd", func := "scullion/scullionlaw3.NvmNew", spec := "nvmNew", apart := false }
def NvmNewSaid : Prop := nvmNewRow.holds Try.pinned (OpenSpec.ofChange nvmNewSpec)

/-- ITS FALSE NEIGHBOUR: 'it returns false'. Refute it at one input. -/
def nvmNewWrong : ChangeSpec := { name := "nvmNew", fn := fun _ => fun
  | [d1, d2, d3, d4] => { results := [.lit (.bool false)], args := [d1, d2, d3, d4] }
  | _ => none }
def NvmNewWrongFalsely : Prop := nvmNewRow.holds Try.pinned (OpenSpec.ofChange nvmNewWrong)

/-- 'scullionlaw3.NvmSure': WHATEVER THE INPUT: true; the input reads as it did. -/
def nvmSureSpec : ChangeSpec := { name := "nvmSure", fn := fun _ => fun
  | [d1, d2, d3, d4] => { results := [.lit (.bool true)], args := [d1, d2, d3, d4] }
  | _ => none }
def nvmSureRow : OpenClaim := { program := "ytjicfjnkammmcaa", sum := "8fc7ef6119f23a9493280c1b4e271d22eac91929e7606015dc4b6d9a3d01c8fd", func := "scullion/scullionlaw3.NvmSure", spec := "nvmSure", apart := false }
def NvmSureSaid : Prop := nvmSureRow.holds Try.pinned (OpenSpec.ofChange nvmSureSpec)

/-- ITS FALSE NEIGHBOUR: 'it returns false'. Refute it at one input. -/
def nvmSureWrong : ChangeSpec := { name := "nvmSure", fn := fun _ => fun
  | [d1, d2, d3, d4] => { results := [.lit (.bool false)], args := [d1, d2, d3, d4] }
  | _ => none }
def NvmSureWrongFalsely : Prop := nvmSureRow.holds Try.pinned (OpenSpec.ofChange nvmSureWrong)

/-- 'scullionlaw3.NvmFuses': WHATEVER THE INPUT: true; the input reads as it did. -/
def nvmFusesSpec : ChangeSpec := { name := "nvmFuses", fn := fun _ => fun
  | [d1, d2] => { results := [.lit (.bool true)], args := [d1, d2] }
  | _ => none }
def nvmFusesRow : OpenClaim := { program := "ytjicfjnkammmcaa", sum := "8fc7ef6119f23a9493280c1b4e271d22eac91929e7606015dc4b6d9a3d01c8fd", func := "scullion/scullionlaw3.NvmFuses", spec := "nvmFuses", apart := false }
def NvmFusesSaid : Prop := nvmFusesRow.holds Try.pinned (OpenSpec.ofChange nvmFusesSpec)

/-- ITS FALSE NEIGHBOUR: 'it returns false'. Refute it at one input. -/
def nvmFusesWrong : ChangeSpec := { name := "nvmFuses", fn := fun _ => fun
  | [d1, d2] => { results := [.lit (.bool false)], args := [d1, d2] }
  | _ => none }
def NvmFusesWrongFalsely : Prop := nvmFusesRow.holds Try.pinned (OpenSpec.ofChange nvmFusesWrong)

/-- 'scullionlaw3.NvmEvicts': WHATEVER THE INPUT: true; the input reads as it did. -/
def nvmEvictsSpec : ChangeSpec := { name := "nvmEvicts", fn := fun _ => fun
  | [d1, d2, d3] => { results := [.lit (.bool true)], args := [d1, d2, d3] }
  | _ => none }
def nvmEvictsRow : OpenClaim := { program := "ytjicfjnkammmcaa", sum := "8fc7ef6119f23a9493280c1b4e271d22eac91929e7606015dc4b6d9a3d01c8fd", func := "scullion/scullionlaw3.NvmEvicts", spec := "nvmEvicts", apart := false }
def NvmEvictsSaid : Prop := nvmEvictsRow.holds Try.pinned (OpenSpec.ofChange nvmEvictsSpec)

/-- ITS FALSE NEIGHBOUR: 'it returns false'. Refute it at one input. -/
def nvmEvictsWrong : ChangeSpec := { name := "nvmEvicts", fn := fun _ => fun
  | [d1, d2, d3] => { results := [.lit (.bool false)], args := [d1, d2, d3] }
  | _ => none }
def NvmEvictsWrongFalsely : Prop := nvmEvictsRow.holds Try.pinned (OpenSpec.ofChange nvmEvictsWrong)

/-- 'scullionlaw3.NvmOf': WHATEVER THE INPUT: true; the input reads as it did. -/
def nvmOfSpec : ChangeSpec := { name := "nvmOf", fn := fun _ => fun
  | [d1, d2, d3] => { results := [.lit (.bool true)], args := [d1, d2, d3] }
  | _ => none }
def nvmOfRow : OpenClaim := { program := "ytjicfjnkammmcaa", sum := "8fc7ef6119f23a9493280c1b4e271d22eac91929e7606015dc4b6d9a3d01c8fd", func := "scullion/scullionlaw3.NvmOf", spec := "nvmOf", apart := false }
def NvmOfSaid : Prop := nvmOfRow.holds Try.pinned (OpenSpec.ofChange nvmOfSpec)

/-- ITS FALSE NEIGHBOUR: 'it returns false'. Refute it at one input. -/
def nvmOfWrong : ChangeSpec := { name := "nvmOf", fn := fun _ => fun
  | [d1, d2, d3] => { results := [.lit (.bool false)], args := [d1, d2, d3] }
  | _ => none }
def NvmOfWrongFalsely : Prop := nvmOfRow.holds Try.pinned (OpenSpec.ofChange nvmOfWrong)

/-- 'scullionlaw3.NvmAll': WHATEVER THE INPUT: true; the input reads as it did. -/
def nvmAllSpec : ChangeSpec := { name := "nvmAll", fn := fun _ => fun
  | [d1, d2] => { results := [.lit (.bool true)], args := [d1, d2] }
  | _ => none }
def nvmAllRow : OpenClaim := { program := "ytjicfjnkammmcaa", sum := "8fc7ef6119f23a9493280c1b4e271d22eac91929e7606015dc4b6d9a3d01c8fd", func := "scullion/scullionlaw3.NvmAll", spec := "nvmAll", apart := false }
def NvmAllSaid : Prop := nvmAllRow.holds Try.pinned (OpenSpec.ofChange nvmAllSpec)

/-- ITS FALSE NEIGHBOUR: 'it returns false'. Refute it at one input. -/
def nvmAllWrong : ChangeSpec := { name := "nvmAll", fn := fun _ => fun
  | [d1, d2] => { results := [.lit (.bool false)], args := [d1, d2] }
  | _ => none }
def NvmAllWrongFalsely : Prop := nvmAllRow.holds Try.pinned (OpenSpec.ofChange nvmAllWrong)

/- THE SECOND FORM. 'bulk': how many values and letters a reading holds, each counted each time it is reached (what is shared counts as often as it is met; a slice's spare places count too). A statement '..UptoSaid' is the law's where the arguments, and the package variables that the reading takes, are together of bulk at most 1048576: NARROWER than '..Said'. Prove '..Said' where nothing that the law and all that it calls make is longer than what came in: it says more and counts as full. Else prove '..UptoSaid'. A law counts once. -/
mutual
def uptoBulk {H : Type} : DataW H → Nat
  | .lit (.string bytes) => bytes.length + 1
  | .lit _ => 1
  | .nil => 1
  | .ptr d => uptoBulk d + 1
  | .slice elems spare => uptoBulkAll elems + uptoBulkAll spare + 1
  | .agg parts => uptoBulkAll parts + 1
  | .iface _ d => uptoBulk d + 1
  | .map entries => uptoBulkEntries entries + 1
  | .held _ => 1
def uptoBulkAll {H : Type} : List (DataW H) → Nat
  | [] => 0
  | d :: r => uptoBulk d + uptoBulkAll r
def uptoBulkEntries {H : Type} : List (Lit × DataW H) → Nat
  | [] => 0
  | x :: r => uptoBulkEntry x + uptoBulkEntries r
def uptoBulkEntry {H : Type} : Lit × DataW H → Nat
  | (.string bytes, d) => bytes.length + uptoBulk d + 1
  | (_, d) => uptoBulk d + 1
 end
def uptoSmall : (H : Type) → List (DataW H) → Bool := fun _ ds => decide (uptoBulkAll ds ≤ 1048576)
def OpenSpec.upto (s : _root_.Go.ChangeSpec) : _root_.Go.OpenSpec := { _root_.Go.OpenSpec.ofChange s with cond := some uptoSmall }

/-- 'scullionlaw3.NvmPlays', WHERE WHAT IT READS IS OF BULK AT MOST 1048576: true; the input reads as it did. -/
def nvmPlaysUptoRow : OpenClaim := { program := "ytjicfjnkammmcaa", sum := "8fc7ef6119f23a9493280c1b4e271d22eac91929e7606015dc4b6d9a3d01c8fd", func := "scullion/scullionlaw3.NvmPlays", spec := "nvmPlays", apart := false, narrowed := true }
def NvmPlaysUptoSaid : Prop := nvmPlaysUptoRow.holds Try.pinned (OpenSpec.upto nvmPlaysSpec)

/-- 'scullionlaw3.NvmCopies', WHERE WHAT IT READS IS OF BULK AT MOST 1048576: true; the input reads as it did. -/
def nvmCopiesUptoRow : OpenClaim := { program := "ytjicfjnkammmcaa", sum := "8fc7ef6119f23a9493280c1b4e271d22eac91929e7606015dc4b6d9a3d01c8fd", func := "scullion/scullionlaw3.NvmCopies", spec := "nvmCopies", apart := false, narrowed := true }
def NvmCopiesUptoSaid : Prop := nvmCopiesUptoRow.holds Try.pinned (OpenSpec.upto nvmCopiesSpec)

/-- 'scullionlaw3.NvmNew', WHERE WHAT IT READS IS OF BULK AT MOST 1048576: true; the input reads as it did. -/
def nvmNewUptoRow : OpenClaim := { program := "ytjicfjnkammmcaa", sum := "8fc7ef6119f23a9493280c1b4e271d22eac91929e7606015dc4b6d9a3d01c8fd", func := "scullion/scullionlaw3.NvmNew", spec := "nvmNew", apart := false, narrowed := true }
def NvmNewUptoSaid : Prop := nvmNewUptoRow.holds Try.pinned (OpenSpec.upto nvmNewSpec)

/-- 'scullionlaw3.NvmSure', WHERE WHAT IT READS IS OF BULK AT MOST 1048576: true; the input reads as it did. -/
def nvmSureUptoRow : OpenClaim := { program := "ytjicfjnkammmcaa", sum := "8fc7ef6119f23a9493280c1b4e271d22eac91929e7606015dc4b6d9a3d01c8fd", func := "scullion/scullionlaw3.NvmSure", spec := "nvmSure", apart := false, narrowed := true }
def NvmSureUptoSaid : Prop := nvmSureUptoRow.holds Try.pinned (OpenSpec.upto nvmSureSpec)

/-- 'scullionlaw3.NvmFuses', WHERE WHAT IT READS IS OF BULK AT MOST 1048576: true; the input reads as it did. -/
def nvmFusesUptoRow : OpenClaim := { program := "ytjicfjnkammmcaa", sum := "8fc7ef6119f23a9493280c1b4e271d22eac91929e7606015dc4b6d9a3d01c8fd", func := "scullion/scullionlaw3.NvmFuses", spec := "nvmFuses", apart := false, narrowed := true }
def NvmFusesUptoSaid : Prop := nvmFusesUptoRow.holds Try.pinned (OpenSpec.upto nvmFusesSpec)

/-- 'scullionlaw3.NvmEvicts', WHERE WHAT IT READS IS OF BULK AT MOST 1048576: true; the input reads as it did. -/
def nvmEvictsUptoRow : OpenClaim := { program := "ytjicfjnkammmcaa", sum := "8fc7ef6119f23a9493280c1b4e271d22eac91929e7606015dc4b6d9a3d01c8fd", func := "scullion/scullionlaw3.NvmEvicts", spec := "nvmEvicts", apart := false, narrowed := true }
def NvmEvictsUptoSaid : Prop := nvmEvictsUptoRow.holds Try.pinned (OpenSpec.upto nvmEvictsSpec)

/-- 'scullionlaw3.NvmOf', WHERE WHAT IT READS IS OF BULK AT MOST 1048576: true; the input reads as it did. -/
def nvmOfUptoRow : OpenClaim := { program := "ytjicfjnkammmcaa", sum := "8fc7ef6119f23a9493280c1b4e271d22eac91929e7606015dc4b6d9a3d01c8fd", func := "scullion/scullionlaw3.NvmOf", spec := "nvmOf", apart := false, narrowed := true }
def NvmOfUptoSaid : Prop := nvmOfUptoRow.holds Try.pinned (OpenSpec.upto nvmOfSpec)

/-- 'scullionlaw3.NvmAll', WHERE WHAT IT READS IS OF BULK AT MOST 1048576: true; the input reads as it did. -/
def nvmAllUptoRow : OpenClaim := { program := "ytjicfjnkammmcaa", sum := "8fc7ef6119f23a9493280c1b4e271d22eac91929e7606015dc4b6d9a3d01c8fd", func := "scullion/scullionlaw3.NvmAll", spec := "nvmAll", apart := false, narrowed := true }
def NvmAllUptoSaid : Prop := nvmAllUptoRow.holds Try.pinned (OpenSpec.upto nvmAllSpec)

end Rows
end Go.Proofs.Ytjicfjnkammmcaa
