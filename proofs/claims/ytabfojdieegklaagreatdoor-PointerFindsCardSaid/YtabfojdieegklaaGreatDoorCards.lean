/-
  DERIVED. GIVEN WITH THE SEED: THE CARDS: each row of YtabfojdieegklaaGreatDoorRows.lean that lists a variable, with what it lists TIED to the program's text (the seventh form; the later family's looks); each row that meets fmt, with fmt's text TOLD by the authors' own Lean function (tested against real Go, not proved from fmt's source: count such statements apart). THE CARD IS WHAT COUNTS. Prove the row's statement (the work); the ties are given (YtabfojdieegklaaGreatDoorTie.lean); close each card by the builder's one call (the guide's Derived/Test/ToyasCard.lean, 'card_holds'). Laid BY PROGRAM, IN A SANDBOX (cutbox-door.mjs). By AI agents, Wed Nov 11 2026. No macro, syntax, notation, axiom, sorry.
-/
import Derived.Test.YtabfojdieegklaaGreatDoorRows
import GoSem.ClaimSeven
namespace Go.Proofs.YtabfojdieegklaaGreatDoor
namespace Rows

/-- THE TIED CARD OF 'scarflaw07.PointerTexts'. -/
def pointerTextsCard : Claim7 := { stood := { row := pointerTextsRow, standIns := [], harness := (true, "2e85339f29246c3248c48497d076df90155cf83d224b7eff96763f62d4966717"), looks := true }, kinds := [], alts := [], laidByText := true, laidKinds := [.data, .data, .data, .data, .sentinel, .sentinel, .pinned], laidTests := true, laidLooks := .later }
def PointerTextsCardSaid : Prop := Claim7.holds Tryz.pinned (.plain (OpenSpec.ofChange pointerTextsSpec)) pointerTextsCard

/-- THE TIED CARD OF 'scarflaw07.PointerFinds'. -/
def pointerFindsCard : Claim7 := { stood := { row := pointerFindsRow, standIns := [], harness := (true, "2e85339f29246c3248c48497d076df90155cf83d224b7eff96763f62d4966717"), looks := true }, kinds := [], alts := [], laidByText := true, laidKinds := [.data, .data, .data, .data, .sentinel, .sentinel, .pinned], laidTests := true, laidLooks := .later }
def PointerFindsCardSaid : Prop := Claim7.holds Tryz.pinned (.plain (OpenSpec.ofChange pointerFindsSpec)) pointerFindsCard

/-- THE TIED CARD OF 'scarflaw07.PointerBack'. -/
def pointerBackCard : Claim7 := { stood := { row := pointerBackRow, standIns := [], harness := (true, "2e85339f29246c3248c48497d076df90155cf83d224b7eff96763f62d4966717"), looks := true }, kinds := [], alts := [], laidByText := true, laidKinds := [.data, .data, .data, .data, .sentinel, .sentinel, .pinned], laidTests := true, laidLooks := .later }
def PointerBackCardSaid : Prop := Claim7.holds Tryz.pinned (.plain (OpenSpec.ofChange pointerBackSpec)) pointerBackCard

/-- THE TIED CARD OF 'scarflaw07.PointerSets'. -/
def pointerSetsCard : Claim7 := { stood := { row := pointerSetsRow, standIns := [], harness := (true, "2e85339f29246c3248c48497d076df90155cf83d224b7eff96763f62d4966717"), looks := true }, kinds := [], alts := [], laidByText := true, laidKinds := [.data, .data, .data, .data, .sentinel, .sentinel, .pinned], laidTests := true, laidLooks := .later }
def PointerSetsCardSaid : Prop := Claim7.holds Tryz.pinned (.plain (OpenSpec.ofChange pointerSetsSpec)) pointerSetsCard

/-- THE TIED CARD OF 'scarflaw07.PointerOrders'. -/
def pointerOrdersCard : Claim7 := { stood := { row := pointerOrdersRow, standIns := [], harness := (true, "2e85339f29246c3248c48497d076df90155cf83d224b7eff96763f62d4966717"), looks := true }, kinds := [], alts := [], laidByText := true, laidKinds := [.data, .data, .data, .data, .sentinel, .sentinel, .pinned], laidTests := true, laidLooks := .later }
def PointerOrdersCardSaid : Prop := Claim7.holds Tryz.pinned (.plain (OpenSpec.ofChange pointerOrdersSpec)) pointerOrdersCard

/-- THE TIED CARD OF 'scarflaw07.PointerWalks'. -/
def pointerWalksCard : Claim7 := { stood := { row := pointerWalksRow, standIns := [], harness := (true, "2e85339f29246c3248c48497d076df90155cf83d224b7eff96763f62d4966717"), looks := true }, kinds := [], alts := [], laidByText := true, laidKinds := [.data, .data, .data, .data, .sentinel, .sentinel, .pinned], laidTests := true, laidLooks := .later }
def PointerWalksCardSaid : Prop := Claim7.holds Tryz.pinned (.plain (OpenSpec.ofChange pointerWalksSpec)) pointerWalksCard

/-- THE TIED CARD OF 'scarflaw08.PrintWrites'. -/
def printWritesCard : Claim7 := { stood := { row := printWritesRow, standIns := [], harness := (true, "2e85339f29246c3248c48497d076df90155cf83d224b7eff96763f62d4966717"), looks := true }, kinds := [], alts := [], laidByText := true, laidKinds := [.data, .data, .data, .data, .sentinel, .sentinel, .pinned], laidTests := true, laidLooks := .later }
def PrintWritesCardSaid : Prop := Claim7.holds Tryz.pinned (.plain (OpenSpec.ofChange printWritesSpec)) printWritesCard

/-- THE TIED CARD OF 'scarflaw08.PrintApart'. -/
def printApartCard : Claim7 := { stood := { row := printApartRow, standIns := [], harness := (true, "2e85339f29246c3248c48497d076df90155cf83d224b7eff96763f62d4966717"), looks := true }, kinds := [], alts := [], laidByText := true, laidKinds := [.data, .data, .data, .data, .sentinel, .sentinel, .pinned], laidTests := true, laidLooks := .later }
def PrintApartCardSaid : Prop := Claim7.holds Tryz.pinned (.plain (OpenSpec.ofChange printApartSpec)) printApartCard

/-- THE TIED CARD OF 'scarflaw08.PrintLines'. -/
def printLinesCard : Claim7 := { stood := { row := printLinesRow, standIns := [], harness := (true, "2e85339f29246c3248c48497d076df90155cf83d224b7eff96763f62d4966717"), looks := true }, kinds := [], alts := [], laidByText := true, laidKinds := [.data, .data, .data, .data, .sentinel, .sentinel, .pinned], laidTests := true, laidLooks := .later }
def PrintLinesCardSaid : Prop := Claim7.holds Tryz.pinned (.plain (OpenSpec.ofChange printLinesSpec)) printLinesCard

/-- THE TIED CARD OF 'scarflaw08.PrintParts'. -/
def printPartsCard : Claim7 := { stood := { row := printPartsRow, standIns := [], harness := (true, "2e85339f29246c3248c48497d076df90155cf83d224b7eff96763f62d4966717"), looks := true }, kinds := [], alts := [], laidByText := true, laidKinds := [.data, .data, .data, .data, .sentinel, .sentinel, .pinned], laidTests := true, laidLooks := .later }
def PrintPartsCardSaid : Prop := Claim7.holds Tryz.pinned (.plain (OpenSpec.ofChange printPartsSpec)) printPartsCard

/-- THE TIED CARD OF 'scarflaw08.PrintCanons'. -/
def printCanonsCard : Claim7 := { stood := { row := printCanonsRow, standIns := [], harness := (true, "2e85339f29246c3248c48497d076df90155cf83d224b7eff96763f62d4966717"), looks := true }, kinds := [], alts := [], laidByText := true, laidKinds := [.data, .data, .data, .data, .sentinel, .sentinel, .pinned], laidTests := true, laidLooks := .later }
def PrintCanonsCardSaid : Prop := Claim7.holds Tryz.pinned (.plain (OpenSpec.ofChange printCanonsSpec)) printCanonsCard

/-- THE SECOND FORM's CARD OF 'scarflaw07.PointerTexts'. -/
def pointerTextsUptoCard : Claim7 := { stood := { row := pointerTextsUptoRow, standIns := [], harness := (true, "2e85339f29246c3248c48497d076df90155cf83d224b7eff96763f62d4966717"), looks := true }, kinds := [], alts := [], laidByText := true, laidKinds := [.data, .data, .data, .data, .sentinel, .sentinel, .pinned], laidTests := true, laidLooks := .later }
def PointerTextsUptoCardSaid : Prop := Claim7.holds Tryz.pinned (.plain (OpenSpec.upto pointerTextsSpec)) pointerTextsUptoCard

/-- THE SECOND FORM's CARD OF 'scarflaw07.PointerFinds'. -/
def pointerFindsUptoCard : Claim7 := { stood := { row := pointerFindsUptoRow, standIns := [], harness := (true, "2e85339f29246c3248c48497d076df90155cf83d224b7eff96763f62d4966717"), looks := true }, kinds := [], alts := [], laidByText := true, laidKinds := [.data, .data, .data, .data, .sentinel, .sentinel, .pinned], laidTests := true, laidLooks := .later }
def PointerFindsUptoCardSaid : Prop := Claim7.holds Tryz.pinned (.plain (OpenSpec.upto pointerFindsSpec)) pointerFindsUptoCard

/-- THE SECOND FORM's CARD OF 'scarflaw07.PointerBack'. -/
def pointerBackUptoCard : Claim7 := { stood := { row := pointerBackUptoRow, standIns := [], harness := (true, "2e85339f29246c3248c48497d076df90155cf83d224b7eff96763f62d4966717"), looks := true }, kinds := [], alts := [], laidByText := true, laidKinds := [.data, .data, .data, .data, .sentinel, .sentinel, .pinned], laidTests := true, laidLooks := .later }
def PointerBackUptoCardSaid : Prop := Claim7.holds Tryz.pinned (.plain (OpenSpec.upto pointerBackSpec)) pointerBackUptoCard

/-- THE SECOND FORM's CARD OF 'scarflaw07.PointerSets'. -/
def pointerSetsUptoCard : Claim7 := { stood := { row := pointerSetsUptoRow, standIns := [], harness := (true, "2e85339f29246c3248c48497d076df90155cf83d224b7eff96763f62d4966717"), looks := true }, kinds := [], alts := [], laidByText := true, laidKinds := [.data, .data, .data, .data, .sentinel, .sentinel, .pinned], laidTests := true, laidLooks := .later }
def PointerSetsUptoCardSaid : Prop := Claim7.holds Tryz.pinned (.plain (OpenSpec.upto pointerSetsSpec)) pointerSetsUptoCard

/-- THE SECOND FORM's CARD OF 'scarflaw07.PointerOrders'. -/
def pointerOrdersUptoCard : Claim7 := { stood := { row := pointerOrdersUptoRow, standIns := [], harness := (true, "2e85339f29246c3248c48497d076df90155cf83d224b7eff96763f62d4966717"), looks := true }, kinds := [], alts := [], laidByText := true, laidKinds := [.data, .data, .data, .data, .sentinel, .sentinel, .pinned], laidTests := true, laidLooks := .later }
def PointerOrdersUptoCardSaid : Prop := Claim7.holds Tryz.pinned (.plain (OpenSpec.upto pointerOrdersSpec)) pointerOrdersUptoCard

/-- THE SECOND FORM's CARD OF 'scarflaw07.PointerWalks'. -/
def pointerWalksUptoCard : Claim7 := { stood := { row := pointerWalksUptoRow, standIns := [], harness := (true, "2e85339f29246c3248c48497d076df90155cf83d224b7eff96763f62d4966717"), looks := true }, kinds := [], alts := [], laidByText := true, laidKinds := [.data, .data, .data, .data, .sentinel, .sentinel, .pinned], laidTests := true, laidLooks := .later }
def PointerWalksUptoCardSaid : Prop := Claim7.holds Tryz.pinned (.plain (OpenSpec.upto pointerWalksSpec)) pointerWalksUptoCard

/-- THE SECOND FORM's CARD OF 'scarflaw08.PrintWrites'. -/
def printWritesUptoCard : Claim7 := { stood := { row := printWritesUptoRow, standIns := [], harness := (true, "2e85339f29246c3248c48497d076df90155cf83d224b7eff96763f62d4966717"), looks := true }, kinds := [], alts := [], laidByText := true, laidKinds := [.data, .data, .data, .data, .sentinel, .sentinel, .pinned], laidTests := true, laidLooks := .later }
def PrintWritesUptoCardSaid : Prop := Claim7.holds Tryz.pinned (.plain (OpenSpec.upto printWritesSpec)) printWritesUptoCard

/-- THE SECOND FORM's CARD OF 'scarflaw08.PrintApart'. -/
def printApartUptoCard : Claim7 := { stood := { row := printApartUptoRow, standIns := [], harness := (true, "2e85339f29246c3248c48497d076df90155cf83d224b7eff96763f62d4966717"), looks := true }, kinds := [], alts := [], laidByText := true, laidKinds := [.data, .data, .data, .data, .sentinel, .sentinel, .pinned], laidTests := true, laidLooks := .later }
def PrintApartUptoCardSaid : Prop := Claim7.holds Tryz.pinned (.plain (OpenSpec.upto printApartSpec)) printApartUptoCard

/-- THE SECOND FORM's CARD OF 'scarflaw08.PrintLines'. -/
def printLinesUptoCard : Claim7 := { stood := { row := printLinesUptoRow, standIns := [], harness := (true, "2e85339f29246c3248c48497d076df90155cf83d224b7eff96763f62d4966717"), looks := true }, kinds := [], alts := [], laidByText := true, laidKinds := [.data, .data, .data, .data, .sentinel, .sentinel, .pinned], laidTests := true, laidLooks := .later }
def PrintLinesUptoCardSaid : Prop := Claim7.holds Tryz.pinned (.plain (OpenSpec.upto printLinesSpec)) printLinesUptoCard

/-- THE SECOND FORM's CARD OF 'scarflaw08.PrintParts'. -/
def printPartsUptoCard : Claim7 := { stood := { row := printPartsUptoRow, standIns := [], harness := (true, "2e85339f29246c3248c48497d076df90155cf83d224b7eff96763f62d4966717"), looks := true }, kinds := [], alts := [], laidByText := true, laidKinds := [.data, .data, .data, .data, .sentinel, .sentinel, .pinned], laidTests := true, laidLooks := .later }
def PrintPartsUptoCardSaid : Prop := Claim7.holds Tryz.pinned (.plain (OpenSpec.upto printPartsSpec)) printPartsUptoCard

/-- THE SECOND FORM's CARD OF 'scarflaw08.PrintCanons'. -/
def printCanonsUptoCard : Claim7 := { stood := { row := printCanonsUptoRow, standIns := [], harness := (true, "2e85339f29246c3248c48497d076df90155cf83d224b7eff96763f62d4966717"), looks := true }, kinds := [], alts := [], laidByText := true, laidKinds := [.data, .data, .data, .data, .sentinel, .sentinel, .pinned], laidTests := true, laidLooks := .later }
def PrintCanonsUptoCardSaid : Prop := Claim7.holds Tryz.pinned (.plain (OpenSpec.upto printCanonsSpec)) printCanonsUptoCard
end Rows
end Go.Proofs.YtabfojdieegklaaGreatDoor
