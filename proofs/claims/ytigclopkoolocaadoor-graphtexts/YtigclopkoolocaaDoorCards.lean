/-
  DERIVED. GIVEN WITH THE SEED: THE CARDS: each row of YtigclopkoolocaaDoorRows.lean that lists a variable, with what it lists TIED to the program's text (the seventh form; the later family's looks); each row that meets fmt, with fmt's text TOLD by the authors' own Lean function (tested against real Go, not proved from fmt's source: count such statements apart). THE CARD IS WHAT COUNTS. Prove the row's statement (the work); the ties are given (YtigclopkoolocaaDoorTie.lean); close each card by the builder's one call (the guide's Derived/Test/ToyasCard.lean, 'card_holds'). Laid BY PROGRAM, IN A SANDBOX (cutbox-door.mjs). By AI agents, Wed Nov 11 2026. No macro, syntax, notation, axiom, sorry.
-/
import Derived.Test.YtigclopkoolocaaDoorRows
import GoSem.ClaimSeven
namespace Go.Proofs.YtigclopkoolocaaDoor
namespace Rows

/-- THE TIED CARD OF 'scullionlaw12.GraphTrims'. -/
def graphTrimsCard : Claim7 := { stood := { row := graphTrimsRow, standIns := [], harness := (true, "c2707d81aa52c9520374eebe0d7893fc5a43055ea7dfb07eee19d7621b188db7"), looks := false }, kinds := [], alts := [], laidByText := true, laidKinds := [.data, .data, .data], laidTests := true, laidLooks := .later }
def GraphTrimsCardSaid : Prop := Claim7.holds Tryd.pinned (.plain (OpenSpec.ofChange graphTrimsSpec)) graphTrimsCard

/-- THE TIED CARD OF 'scullionlaw12.GraphTexts'. -/
def graphTextsCard : Claim7 := { stood := { row := graphTextsRow, standIns := [], harness := (true, "c2707d81aa52c9520374eebe0d7893fc5a43055ea7dfb07eee19d7621b188db7"), looks := false }, kinds := [], alts := [], laidByText := true, laidKinds := [.data, .data, .data], laidTests := true, laidLooks := .later }
def GraphTextsCardSaid : Prop := Claim7.holds Tryd.pinned (.plain (OpenSpec.ofChange graphTextsSpec)) graphTextsCard

/-- THE TIED CARD OF 'scullionlaw12.GraphSide'. -/
def graphSideCard : Claim7 := { stood := { row := graphSideRow, standIns := [], harness := (true, "c2707d81aa52c9520374eebe0d7893fc5a43055ea7dfb07eee19d7621b188db7"), looks := false }, kinds := [], alts := [], laidByText := true, laidKinds := [.data, .data, .data], laidTests := true, laidLooks := .later }
def GraphSideCardSaid : Prop := Claim7.holds Tryd.pinned (.plain (OpenSpec.ofChange graphSideSpec)) graphSideCard

/-- THE SECOND FORM's CARD OF 'scullionlaw12.GraphTrims'. -/
def graphTrimsUptoCard : Claim7 := { stood := { row := graphTrimsUptoRow, standIns := [], harness := (true, "c2707d81aa52c9520374eebe0d7893fc5a43055ea7dfb07eee19d7621b188db7"), looks := false }, kinds := [], alts := [], laidByText := true, laidKinds := [.data, .data, .data], laidTests := true, laidLooks := .later }
def GraphTrimsUptoCardSaid : Prop := Claim7.holds Tryd.pinned (.plain (OpenSpec.upto graphTrimsSpec)) graphTrimsUptoCard

/-- THE SECOND FORM's CARD OF 'scullionlaw12.GraphTexts'. -/
def graphTextsUptoCard : Claim7 := { stood := { row := graphTextsUptoRow, standIns := [], harness := (true, "c2707d81aa52c9520374eebe0d7893fc5a43055ea7dfb07eee19d7621b188db7"), looks := false }, kinds := [], alts := [], laidByText := true, laidKinds := [.data, .data, .data], laidTests := true, laidLooks := .later }
def GraphTextsUptoCardSaid : Prop := Claim7.holds Tryd.pinned (.plain (OpenSpec.upto graphTextsSpec)) graphTextsUptoCard

/-- THE SECOND FORM's CARD OF 'scullionlaw12.GraphSide'. -/
def graphSideUptoCard : Claim7 := { stood := { row := graphSideUptoRow, standIns := [], harness := (true, "c2707d81aa52c9520374eebe0d7893fc5a43055ea7dfb07eee19d7621b188db7"), looks := false }, kinds := [], alts := [], laidByText := true, laidKinds := [.data, .data, .data], laidTests := true, laidLooks := .later }
def GraphSideUptoCardSaid : Prop := Claim7.holds Tryd.pinned (.plain (OpenSpec.upto graphSideSpec)) graphSideUptoCard
end Rows
end Go.Proofs.YtigclopkoolocaaDoor
