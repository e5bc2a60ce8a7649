/-
  No cell of these rows narrows 'for every input' (looked for: loops, veiled, ifaces, maps, wideKeys, modest, calm, conditions, laid).
  DERIVED. THE GIVEN ROWS OF THIS SEAT. 6 by the template 'for every input the law returns true; each argument reads behind the call as it read before'; 0 by the template 'total and deterministic' (their statements: YtfihaaciaobolaaTotals.lean).
  GIVEN WITH THE SEED: the statements are not yours to turn. If you find one false, say at which input.
  Laid BY PROGRAM, IN A SANDBOX (cutbox-rows.mjs): the forced cells as the released guide's own fill.sh prints them over the translation 74540df18f32e04a… (all of the seat's roots in one cut). By AI agents, Wed Nov 11 2026. No macro, syntax, notation, axiom, sorry.
-/
import Derived.Test.YtfihaaciaobolaaChecked
import GoSem.Claim
import GoSem.ClaimJoined
import GoSem.ClaimMapViews
import Derived.JoinedTies
import Derived.KernelRfl
namespace Go.Proofs.Ytfihaaciaobolaa
/- THE CELL 'sum', in the pinned program and in every row, IS THE sha256 OF THE DUMP (.gsa) THAT YtfihaaciaobolaaProg.lean LOADS. Nothing in Lean hashes anything: it is a label: what it is worth is what the hold of that sum in a sandbox is worth. -/
noncomputable def Try.pinned : Pinned := { name := "ytfihaaciaobolaa", sum := "74540df18f32e04a9855f76e648bd6edbdd2775c21d740a2f7f232db38e078cc", checked := Try.checked }
namespace Rows
def none {H : Type} : Left H := { results := [], args := [] }

/-- 'scullionlaw7.BlockPlays': WHATEVER THE INPUT: true; the input reads as it did. -/
def blockPlaysSpec : ChangeSpec := { name := "blockPlays", fn := fun _ => fun
  | [d1, d2, d3] => { results := [.lit (.bool true)], args := [d1, d2, d3] }
  | _ => none }
def blockPlaysRow : OpenClaim := { program := "ytfihaaciaobolaa", sum := "74540df18f32e04a9855f76e648bd6edbdd2775c21d740a2f7f232db38e078cc", func := "scullion/scullionlaw7.BlockPlays", spec := "blockPlays", unfollowed := true, recurses := true, apart := false }
def BlockPlaysSaid : Prop := blockPlaysRow.holds Try.pinned (OpenSpec.ofChange blockPlaysSpec)

/-- ITS FALSE NEIGHBOUR: 'it returns false'. Refute it at one input. -/
def blockPlaysWrong : ChangeSpec := { name := "blockPlays", fn := fun _ => fun
  | [d1, d2, d3] => { results := [.lit (.bool false)], args := [d1, d2, d3] }
  | _ => none }
def BlockPlaysWrongFalsely : Prop := blockPlaysRow.holds Try.pinned (OpenSpec.ofChange blockPlaysWrong)

/-- 'scullionlaw7.BlockNil': WHATEVER THE INPUT: true; the input reads as it did. -/
def blockNilSpec : ChangeSpec := { name := "blockNil", fn := fun _ => fun
  | [d1, d2] => { results := [.lit (.bool true)], args := [d1, d2] }
  | _ => none }
def blockNilRow : OpenClaim := { program := "ytfihaaciaobolaa", sum := "74540df18f32e04a9855f76e648bd6edbdd2775c21d740a2f7f232db38e078cc", func := "scullion/scullionlaw7.BlockNil", spec := "blockNil", unfollowed := true, recurses := true, apart := false }
def BlockNilSaid : Prop := blockNilRow.holds Try.pinned (OpenSpec.ofChange blockNilSpec)

/-- ITS FALSE NEIGHBOUR: 'it returns false'. Refute it at one input. -/
def blockNilWrong : ChangeSpec := { name := "blockNil", fn := fun _ => fun
  | [d1, d2] => { results := [.lit (.bool false)], args := [d1, d2] }
  | _ => none }
def BlockNilWrongFalsely : Prop := blockNilRow.holds Try.pinned (OpenSpec.ofChange blockNilWrong)

/-- 'scullionlaw7.BlockOnce': WHATEVER THE INPUT: true; the input reads as it did. -/
def blockOnceSpec : ChangeSpec := { name := "blockOnce", fn := fun _ => fun
  | [d1, d2, d3] => { results := [.lit (.bool true)], args := [d1, d2, d3] }
  | _ => none }
def blockOnceRow : OpenClaim := { program := "ytfihaaciaobolaa", sum := "74540df18f32e04a9855f76e648bd6edbdd2775c21d740a2f7f232db38e078cc", func := "scullion/scullionlaw7.BlockOnce", spec := "blockOnce", unfollowed := true, recurses := true, apart := false }
def BlockOnceSaid : Prop := blockOnceRow.holds Try.pinned (OpenSpec.ofChange blockOnceSpec)

/-- ITS FALSE NEIGHBOUR: 'it returns false'. Refute it at one input. -/
def blockOnceWrong : ChangeSpec := { name := "blockOnce", fn := fun _ => fun
  | [d1, d2, d3] => { results := [.lit (.bool false)], args := [d1, d2, d3] }
  | _ => none }
def BlockOnceWrongFalsely : Prop := blockOnceRow.holds Try.pinned (OpenSpec.ofChange blockOnceWrong)

/-- 'scullionlaw7.BlockCancels': WHATEVER THE INPUT: true; the input reads as it did. -/
def blockCancelsSpec : ChangeSpec := { name := "blockCancels", fn := fun _ => fun
  | [d1, d2, d3] => { results := [.lit (.bool true)], args := [d1, d2, d3] }
  | _ => none }
def blockCancelsRow : OpenClaim := { program := "ytfihaaciaobolaa", sum := "74540df18f32e04a9855f76e648bd6edbdd2775c21d740a2f7f232db38e078cc", func := "scullion/scullionlaw7.BlockCancels", spec := "blockCancels", apart := false }
def BlockCancelsSaid : Prop := blockCancelsRow.holds Try.pinned (OpenSpec.ofChange blockCancelsSpec)

/-- ITS FALSE NEIGHBOUR: 'it returns false'. Refute it at one input. -/
def blockCancelsWrong : ChangeSpec := { name := "blockCancels", fn := fun _ => fun
  | [d1, d2, d3] => { results := [.lit (.bool false)], args := [d1, d2, d3] }
  | _ => none }
def BlockCancelsWrongFalsely : Prop := blockCancelsRow.holds Try.pinned (OpenSpec.ofChange blockCancelsWrong)

/-- 'scullionlaw7.BlockLeast': WHATEVER THE INPUT: true; the input reads as it did. -/
def blockLeastSpec : ChangeSpec := { name := "blockLeast", fn := fun _ => fun
  | [d1, d2, d3] => { results := [.lit (.bool true)], args := [d1, d2, d3] }
  | _ => none }
def blockLeastRow : OpenClaim := { program := "ytfihaaciaobolaa", sum := "74540df18f32e04a9855f76e648bd6edbdd2775c21d740a2f7f232db38e078cc", func := "scullion/scullionlaw7.BlockLeast", spec := "blockLeast", apart := false }
def BlockLeastSaid : Prop := blockLeastRow.holds Try.pinned (OpenSpec.ofChange blockLeastSpec)

/-- ITS FALSE NEIGHBOUR: 'it returns false'. Refute it at one input. -/
def blockLeastWrong : ChangeSpec := { name := "blockLeast", fn := fun _ => fun
  | [d1, d2, d3] => { results := [.lit (.bool false)], args := [d1, d2, d3] }
  | _ => none }
def BlockLeastWrongFalsely : Prop := blockLeastRow.holds Try.pinned (OpenSpec.ofChange blockLeastWrong)

/-- 'scullionlaw7.BlockEntries': WHATEVER THE INPUT: true; the input reads as it did. -/
def blockEntriesSpec : ChangeSpec := { name := "blockEntries", fn := fun _ => fun
  | [d1, d2, d3] => { results := [.lit (.bool true)], args := [d1, d2, d3] }
  | _ => none }
def blockEntriesRow : OpenClaim := { program := "ytfihaaciaobolaa", sum := "74540df18f32e04a9855f76e648bd6edbdd2775c21d740a2f7f232db38e078cc", func := "scullion/scullionlaw7.BlockEntries", spec := "blockEntries", unfollowed := true, recurses := true, apart := false }
def BlockEntriesSaid : Prop := blockEntriesRow.holds Try.pinned (OpenSpec.ofChange blockEntriesSpec)

/-- ITS FALSE NEIGHBOUR: 'it returns false'. Refute it at one input. -/
def blockEntriesWrong : ChangeSpec := { name := "blockEntries", fn := fun _ => fun
  | [d1, d2, d3] => { results := [.lit (.bool false)], args := [d1, d2, d3] }
  | _ => none }
def BlockEntriesWrongFalsely : Prop := blockEntriesRow.holds Try.pinned (OpenSpec.ofChange blockEntriesWrong)

/- THE SECOND FORM. 'bulk': how many values and letters a reading holds, each counted each time it is reached (what is shared counts as often as it is met; a slice's spare places count too). A statement '..UptoSaid' is the law's where the arguments, and the package variables that the reading takes, are together of bulk at most 1048576: NARROWER than '..Said'. Prove '..Said' where nothing that the law and all that it calls make is longer than what came in: it says more and counts as full. Else prove '..UptoSaid'. A law counts once. -/
mutual
def uptoBulk {H : Type} : DataW H → Nat
  | .lit (.string bytes) => bytes.length + 1
  | .lit _ => 1
  | .nil => 1
  | .ptr d => uptoBulk d + 1
  | .slice elems spare => uptoBulkAll elems + uptoBulkAll spare + 1
  | .agg parts => uptoBulkAll parts + 1
  | .iface _ d => uptoBulk d + 1
  | .map entries => uptoBulkEntries entries + 1
  | .held _ => 1
def uptoBulkAll {H : Type} : List (DataW H) → Nat
  | [] => 0
  | d :: r => uptoBulk d + uptoBulkAll r
def uptoBulkEntries {H : Type} : List (Lit × DataW H) → Nat
  | [] => 0
  | x :: r => uptoBulkEntry x + uptoBulkEntries r
def uptoBulkEntry {H : Type} : Lit × DataW H → Nat
  | (.string bytes, d) => bytes.length + uptoBulk d + 1
  | (_, d) => uptoBulk d + 1
 end
def uptoSmall : (H : Type) → List (DataW H) → Bool := fun _ ds => decide (uptoBulkAll ds ≤ 1048576)
def OpenSpec.upto (s : _root_.Go.ChangeSpec) : _root_.Go.OpenSpec := { _root_.Go.OpenSpec.ofChange s with cond := some uptoSmall }

/-- 'scullionlaw7.BlockPlays', WHERE WHAT IT READS IS OF BULK AT MOST 1048576: true; the input reads as it did. -/
def blockPlaysUptoRow : OpenClaim := { program := "ytfihaaciaobolaa", sum := "74540df18f32e04a9855f76e648bd6edbdd2775c21d740a2f7f232db38e078cc", func := "scullion/scullionlaw7.BlockPlays", spec := "blockPlays", unfollowed := true, recurses := true, apart := false, narrowed := true }
def BlockPlaysUptoSaid : Prop := blockPlaysUptoRow.holds Try.pinned (OpenSpec.upto blockPlaysSpec)

/-- 'scullionlaw7.BlockNil', WHERE WHAT IT READS IS OF BULK AT MOST 1048576: true; the input reads as it did. -/
def blockNilUptoRow : OpenClaim := { program := "ytfihaaciaobolaa", sum := "74540df18f32e04a9855f76e648bd6edbdd2775c21d740a2f7f232db38e078cc", func := "scullion/scullionlaw7.BlockNil", spec := "blockNil", unfollowed := true, recurses := true, apart := false, narrowed := true }
def BlockNilUptoSaid : Prop := blockNilUptoRow.holds Try.pinned (OpenSpec.upto blockNilSpec)

/-- 'scullionlaw7.BlockOnce', WHERE WHAT IT READS IS OF BULK AT MOST 1048576: true; the input reads as it did. -/
def blockOnceUptoRow : OpenClaim := { program := "ytfihaaciaobolaa", sum := "74540df18f32e04a9855f76e648bd6edbdd2775c21d740a2f7f232db38e078cc", func := "scullion/scullionlaw7.BlockOnce", spec := "blockOnce", unfollowed := true, recurses := true, apart := false, narrowed := true }
def BlockOnceUptoSaid : Prop := blockOnceUptoRow.holds Try.pinned (OpenSpec.upto blockOnceSpec)

/-- 'scullionlaw7.BlockCancels', WHERE WHAT IT READS IS OF BULK AT MOST 1048576: true; the input reads as it did. -/
def blockCancelsUptoRow : OpenClaim := { program := "ytfihaaciaobolaa", sum := "74540df18f32e04a9855f76e648bd6edbdd2775c21d740a2f7f232db38e078cc", func := "scullion/scullionlaw7.BlockCancels", spec := "blockCancels", apart := false, narrowed := true }
def BlockCancelsUptoSaid : Prop := blockCancelsUptoRow.holds Try.pinned (OpenSpec.upto blockCancelsSpec)

/-- 'scullionlaw7.BlockLeast', WHERE WHAT IT READS IS OF BULK AT MOST 1048576: true; the input reads as it did. -/
def blockLeastUptoRow : OpenClaim := { program := "ytfihaaciaobolaa", sum := "74540df18f32e04a9855f76e648bd6edbdd2775c21d740a2f7f232db38e078cc", func := "scullion/scullionlaw7.BlockLeast", spec := "blockLeast", apart := false, narrowed := true }
def BlockLeastUptoSaid : Prop := blockLeastUptoRow.holds Try.pinned (OpenSpec.upto blockLeastSpec)

/-- 'scullionlaw7.BlockEntries', WHERE WHAT IT READS IS OF BULK AT MOST 1048576: true; the input reads as it did. -/
def blockEntriesUptoRow : OpenClaim := { program := "ytfihaaciaobolaa", sum := "74540df18f32e04a9855f76e648bd6edbdd2775c21d740a2f7f232db38e078cc", func := "scullion/scullionlaw7.BlockEntries", spec := "blockEntries", unfollowed := true, recurses := true, apart := false, narrowed := true }
def BlockEntriesUptoSaid : Prop := blockEntriesUptoRow.holds Try.pinned (OpenSpec.upto blockEntriesSpec)

end Rows
end Go.Proofs.Ytfihaaciaobolaa
