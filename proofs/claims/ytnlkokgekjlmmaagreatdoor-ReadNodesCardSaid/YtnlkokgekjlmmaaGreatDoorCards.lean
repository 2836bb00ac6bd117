/-
  DERIVED. GIVEN WITH THE SEED: THE CARDS: each row of YtnlkokgekjlmmaaGreatDoorRows.lean that lists a variable, with what it lists TIED to the program's text (the seventh form; the later family's looks); each row that meets fmt, with fmt's text TOLD by the authors' own Lean function (tested against real Go, not proved from fmt's source: count such statements apart). THE CARD IS WHAT COUNTS. Prove the row's statement (the work); the ties are given (YtnlkokgekjlmmaaGreatDoorTie.lean); close each card by the builder's one call (the guide's Derived/Test/ToyasCard.lean, 'card_holds'). Laid BY PROGRAM, IN A SANDBOX (cutbox-door.mjs). By AI agents, Wed Nov 11 2026. No macro, syntax, notation, axiom, sorry.
-/
import Derived.Test.YtnlkokgekjlmmaaGreatDoorRows
import GoSem.ClaimSeven
namespace Go.Proofs.YtnlkokgekjlmmaaGreatDoor
namespace Rows

/-- THE TIED CARD OF 'scarflaw08.PrintWrites'. -/
def printWritesCard : Claim7 := { stood := { row := printWritesRow, standIns := [], harness := (true, "648109062bc65e83bc1c73427a3cb2fd990b38a4f977033700583ccca1fa875f"), looks := true }, kinds := [], alts := [], laidByText := true, laidKinds := [.data, .data, .data, .data, .sentinel, .sentinel, .pinned], laidTests := true, laidLooks := .later }
def PrintWritesCardSaid : Prop := Claim7.holds Tryz.pinned (.plain (OpenSpec.ofChange printWritesSpec)) printWritesCard

/-- THE TIED CARD OF 'scarflaw08.PrintApart'. -/
def printApartCard : Claim7 := { stood := { row := printApartRow, standIns := [], harness := (true, "648109062bc65e83bc1c73427a3cb2fd990b38a4f977033700583ccca1fa875f"), looks := true }, kinds := [], alts := [], laidByText := true, laidKinds := [.data, .data, .data, .data, .sentinel, .sentinel, .pinned], laidTests := true, laidLooks := .later }
def PrintApartCardSaid : Prop := Claim7.holds Tryz.pinned (.plain (OpenSpec.ofChange printApartSpec)) printApartCard

/-- THE TIED CARD OF 'scarflaw08.PrintLines'. -/
def printLinesCard : Claim7 := { stood := { row := printLinesRow, standIns := [], harness := (true, "648109062bc65e83bc1c73427a3cb2fd990b38a4f977033700583ccca1fa875f"), looks := true }, kinds := [], alts := [], laidByText := true, laidKinds := [.data, .data, .data, .data, .sentinel, .sentinel, .pinned], laidTests := true, laidLooks := .later }
def PrintLinesCardSaid : Prop := Claim7.holds Tryz.pinned (.plain (OpenSpec.ofChange printLinesSpec)) printLinesCard

/-- THE TIED CARD OF 'scarflaw08.PrintParts'. -/
def printPartsCard : Claim7 := { stood := { row := printPartsRow, standIns := [], harness := (true, "648109062bc65e83bc1c73427a3cb2fd990b38a4f977033700583ccca1fa875f"), looks := true }, kinds := [], alts := [], laidByText := true, laidKinds := [.data, .data, .data, .data, .sentinel, .sentinel, .pinned], laidTests := true, laidLooks := .later }
def PrintPartsCardSaid : Prop := Claim7.holds Tryz.pinned (.plain (OpenSpec.ofChange printPartsSpec)) printPartsCard

/-- THE TIED CARD OF 'scarflaw08.PrintCanons'. -/
def printCanonsCard : Claim7 := { stood := { row := printCanonsRow, standIns := [], harness := (true, "648109062bc65e83bc1c73427a3cb2fd990b38a4f977033700583ccca1fa875f"), looks := true }, kinds := [], alts := [], laidByText := true, laidKinds := [.data, .data, .data, .data, .sentinel, .sentinel, .pinned], laidTests := true, laidLooks := .later }
def PrintCanonsCardSaid : Prop := Claim7.holds Tryz.pinned (.plain (OpenSpec.ofChange printCanonsSpec)) printCanonsCard

/-- THE TIED CARD OF 'scarflaw09.ReadReads'. -/
def readReadsCard : Claim7 := { stood := { row := readReadsRow, standIns := [], harness := (true, "648109062bc65e83bc1c73427a3cb2fd990b38a4f977033700583ccca1fa875f"), looks := true }, kinds := [], alts := [], laidByText := true, laidKinds := [.data, .data, .data, .data, .sentinel, .sentinel, .pinned], laidTests := true, laidLooks := .later }
def ReadReadsCardSaid : Prop := Claim7.holds Tryz.pinned (.plain (OpenSpec.ofChange readReadsSpec)) readReadsCard

/-- THE TIED CARD OF 'scarflaw09.ReadNodes'. -/
def readNodesCard : Claim7 := { stood := { row := readNodesRow, standIns := [], harness := (true, "648109062bc65e83bc1c73427a3cb2fd990b38a4f977033700583ccca1fa875f"), looks := true }, kinds := [], alts := [], laidByText := true, laidKinds := [.data, .data, .data, .data, .sentinel, .sentinel, .pinned], laidTests := true, laidLooks := .later }
def ReadNodesCardSaid : Prop := Claim7.holds Tryz.pinned (.plain (OpenSpec.ofChange readNodesSpec)) readNodesCard

/-- THE TIED CARD OF 'scarflaw09.ReadBack'. -/
def readBackCard : Claim7 := { stood := { row := readBackRow, standIns := [], harness := (true, "648109062bc65e83bc1c73427a3cb2fd990b38a4f977033700583ccca1fa875f"), looks := true }, kinds := [], alts := [], laidByText := true, laidKinds := [.data, .data, .data, .data, .sentinel, .sentinel, .pinned], laidTests := true, laidLooks := .later }
def ReadBackCardSaid : Prop := Claim7.holds Tryz.pinned (.plain (OpenSpec.ofChange readBackSpec)) readBackCard

/-- THE TIED CARD OF 'scarflaw09.ReadPaths'. -/
def readPathsCard : Claim7 := { stood := { row := readPathsRow, standIns := [], harness := (true, "648109062bc65e83bc1c73427a3cb2fd990b38a4f977033700583ccca1fa875f"), looks := true }, kinds := [], alts := [], laidByText := true, laidKinds := [.data, .data, .data, .data, .sentinel, .sentinel, .pinned], laidTests := true, laidLooks := .later }
def ReadPathsCardSaid : Prop := Claim7.holds Tryz.pinned (.plain (OpenSpec.ofChange readPathsSpec)) readPathsCard

/-- THE TIED CARD OF 'scarflaw09.ReadScalars'. -/
def readScalarsCard : Claim7 := { stood := { row := readScalarsRow, standIns := [], harness := (true, "648109062bc65e83bc1c73427a3cb2fd990b38a4f977033700583ccca1fa875f"), looks := true }, kinds := [], alts := [], laidByText := true, laidKinds := [.data, .data, .data, .data, .sentinel, .sentinel, .pinned], laidTests := true, laidLooks := .later }
def ReadScalarsCardSaid : Prop := Claim7.holds Tryz.pinned (.plain (OpenSpec.ofChange readScalarsSpec)) readScalarsCard

/-- THE SECOND FORM's CARD OF 'scarflaw08.PrintWrites'. -/
def printWritesUptoCard : Claim7 := { stood := { row := printWritesUptoRow, standIns := [], harness := (true, "648109062bc65e83bc1c73427a3cb2fd990b38a4f977033700583ccca1fa875f"), looks := true }, kinds := [], alts := [], laidByText := true, laidKinds := [.data, .data, .data, .data, .sentinel, .sentinel, .pinned], laidTests := true, laidLooks := .later }
def PrintWritesUptoCardSaid : Prop := Claim7.holds Tryz.pinned (.plain (OpenSpec.upto printWritesSpec)) printWritesUptoCard

/-- THE SECOND FORM's CARD OF 'scarflaw08.PrintApart'. -/
def printApartUptoCard : Claim7 := { stood := { row := printApartUptoRow, standIns := [], harness := (true, "648109062bc65e83bc1c73427a3cb2fd990b38a4f977033700583ccca1fa875f"), looks := true }, kinds := [], alts := [], laidByText := true, laidKinds := [.data, .data, .data, .data, .sentinel, .sentinel, .pinned], laidTests := true, laidLooks := .later }
def PrintApartUptoCardSaid : Prop := Claim7.holds Tryz.pinned (.plain (OpenSpec.upto printApartSpec)) printApartUptoCard

/-- THE SECOND FORM's CARD OF 'scarflaw08.PrintLines'. -/
def printLinesUptoCard : Claim7 := { stood := { row := printLinesUptoRow, standIns := [], harness := (true, "648109062bc65e83bc1c73427a3cb2fd990b38a4f977033700583ccca1fa875f"), looks := true }, kinds := [], alts := [], laidByText := true, laidKinds := [.data, .data, .data, .data, .sentinel, .sentinel, .pinned], laidTests := true, laidLooks := .later }
def PrintLinesUptoCardSaid : Prop := Claim7.holds Tryz.pinned (.plain (OpenSpec.upto printLinesSpec)) printLinesUptoCard

/-- THE SECOND FORM's CARD OF 'scarflaw08.PrintParts'. -/
def printPartsUptoCard : Claim7 := { stood := { row := printPartsUptoRow, standIns := [], harness := (true, "648109062bc65e83bc1c73427a3cb2fd990b38a4f977033700583ccca1fa875f"), looks := true }, kinds := [], alts := [], laidByText := true, laidKinds := [.data, .data, .data, .data, .sentinel, .sentinel, .pinned], laidTests := true, laidLooks := .later }
def PrintPartsUptoCardSaid : Prop := Claim7.holds Tryz.pinned (.plain (OpenSpec.upto printPartsSpec)) printPartsUptoCard

/-- THE SECOND FORM's CARD OF 'scarflaw08.PrintCanons'. -/
def printCanonsUptoCard : Claim7 := { stood := { row := printCanonsUptoRow, standIns := [], harness := (true, "648109062bc65e83bc1c73427a3cb2fd990b38a4f977033700583ccca1fa875f"), looks := true }, kinds := [], alts := [], laidByText := true, laidKinds := [.data, .data, .data, .data, .sentinel, .sentinel, .pinned], laidTests := true, laidLooks := .later }
def PrintCanonsUptoCardSaid : Prop := Claim7.holds Tryz.pinned (.plain (OpenSpec.upto printCanonsSpec)) printCanonsUptoCard

/-- THE SECOND FORM's CARD OF 'scarflaw09.ReadReads'. -/
def readReadsUptoCard : Claim7 := { stood := { row := readReadsUptoRow, standIns := [], harness := (true, "648109062bc65e83bc1c73427a3cb2fd990b38a4f977033700583ccca1fa875f"), looks := true }, kinds := [], alts := [], laidByText := true, laidKinds := [.data, .data, .data, .data, .sentinel, .sentinel, .pinned], laidTests := true, laidLooks := .later }
def ReadReadsUptoCardSaid : Prop := Claim7.holds Tryz.pinned (.plain (OpenSpec.upto readReadsSpec)) readReadsUptoCard

/-- THE SECOND FORM's CARD OF 'scarflaw09.ReadNodes'. -/
def readNodesUptoCard : Claim7 := { stood := { row := readNodesUptoRow, standIns := [], harness := (true, "648109062bc65e83bc1c73427a3cb2fd990b38a4f977033700583ccca1fa875f"), looks := true }, kinds := [], alts := [], laidByText := true, laidKinds := [.data, .data, .data, .data, .sentinel, .sentinel, .pinned], laidTests := true, laidLooks := .later }
def ReadNodesUptoCardSaid : Prop := Claim7.holds Tryz.pinned (.plain (OpenSpec.upto readNodesSpec)) readNodesUptoCard

/-- THE SECOND FORM's CARD OF 'scarflaw09.ReadBack'. -/
def readBackUptoCard : Claim7 := { stood := { row := readBackUptoRow, standIns := [], harness := (true, "648109062bc65e83bc1c73427a3cb2fd990b38a4f977033700583ccca1fa875f"), looks := true }, kinds := [], alts := [], laidByText := true, laidKinds := [.data, .data, .data, .data, .sentinel, .sentinel, .pinned], laidTests := true, laidLooks := .later }
def ReadBackUptoCardSaid : Prop := Claim7.holds Tryz.pinned (.plain (OpenSpec.upto readBackSpec)) readBackUptoCard

/-- THE SECOND FORM's CARD OF 'scarflaw09.ReadPaths'. -/
def readPathsUptoCard : Claim7 := { stood := { row := readPathsUptoRow, standIns := [], harness := (true, "648109062bc65e83bc1c73427a3cb2fd990b38a4f977033700583ccca1fa875f"), looks := true }, kinds := [], alts := [], laidByText := true, laidKinds := [.data, .data, .data, .data, .sentinel, .sentinel, .pinned], laidTests := true, laidLooks := .later }
def ReadPathsUptoCardSaid : Prop := Claim7.holds Tryz.pinned (.plain (OpenSpec.upto readPathsSpec)) readPathsUptoCard

/-- THE SECOND FORM's CARD OF 'scarflaw09.ReadScalars'. -/
def readScalarsUptoCard : Claim7 := { stood := { row := readScalarsUptoRow, standIns := [], harness := (true, "648109062bc65e83bc1c73427a3cb2fd990b38a4f977033700583ccca1fa875f"), looks := true }, kinds := [], alts := [], laidByText := true, laidKinds := [.data, .data, .data, .data, .sentinel, .sentinel, .pinned], laidTests := true, laidLooks := .later }
def ReadScalarsUptoCardSaid : Prop := Claim7.holds Tryz.pinned (.plain (OpenSpec.upto readScalarsSpec)) readScalarsUptoCard
end Rows
end Go.Proofs.YtnlkokgekjlmmaaGreatDoor
