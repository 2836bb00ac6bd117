/-
  DERIVED. GIVEN WITH THE SEED: THE CARDS: each row of YtkafjblfjdpdaaaGreatDoorRows.lean that lists a variable, with what it lists TIED to the program's text (the seventh form; the later family's looks); each row that meets fmt, with fmt's text TOLD by the authors' own Lean function (tested against real Go, not proved from fmt's source: count such statements apart). THE CARD IS WHAT COUNTS. Prove the row's statement (the work); the ties are given (YtkafjblfjdpdaaaGreatDoorTie.lean); close each card by the builder's one call (the guide's Derived/Test/ToyasCard.lean, 'card_holds'). Laid BY PROGRAM, IN A SANDBOX (cutbox-door.mjs). By AI agents, Wed Nov 11 2026. No macro, syntax, notation, axiom, sorry.
-/
import Derived.Test.YtkafjblfjdpdaaaGreatDoorRows
import GoSem.ClaimSeven
namespace Go.Proofs.YtkafjblfjdpdaaaGreatDoor
namespace Rows

/-- THE TIED CARD OF 'scarflaw11.YscalarReads'. -/
def yscalarReadsCard : Claim7 := { stood := { row := yscalarReadsRow, standIns := [], harness := (true, "02d6e79d1d14ee116f2bc21045791a059ed1dbcffe3eab9f9cce5bb5672c1dac"), looks := true }, kinds := [], alts := [], laidByText := true, laidKinds := [.data, .data, .data, .data, .sentinel, .sentinel, .pinned], laidTests := true, laidLooks := .later }
def YscalarReadsCardSaid : Prop := Claim7.holds Tryz.pinned (.plain (OpenSpec.ofChange yscalarReadsSpec)) yscalarReadsCard

/-- THE TIED CARD OF 'scarflaw11.YscalarWrites'. -/
def yscalarWritesCard : Claim7 := { stood := { row := yscalarWritesRow, standIns := [], harness := (true, "02d6e79d1d14ee116f2bc21045791a059ed1dbcffe3eab9f9cce5bb5672c1dac"), looks := true }, kinds := [], alts := [], laidByText := true, laidKinds := [.data, .data, .data, .data, .sentinel, .sentinel, .pinned], laidTests := true, laidLooks := .later }
def YscalarWritesCardSaid : Prop := Claim7.holds Tryz.pinned (.plain (OpenSpec.ofChange yscalarWritesSpec)) yscalarWritesCard

/-- THE TIED CARD OF 'scarflaw11.YscalarBack'. -/
def yscalarBackCard : Claim7 := { stood := { row := yscalarBackRow, standIns := [], harness := (true, "02d6e79d1d14ee116f2bc21045791a059ed1dbcffe3eab9f9cce5bb5672c1dac"), looks := true }, kinds := [], alts := [], laidByText := true, laidKinds := [.data, .data, .data, .data, .sentinel, .sentinel, .pinned], laidTests := true, laidLooks := .later }
def YscalarBackCardSaid : Prop := Claim7.holds Tryz.pinned (.plain (OpenSpec.ofChange yscalarBackSpec)) yscalarBackCard

/-- THE TIED CARD OF 'scarflaw11.YscalarLines'. -/
def yscalarLinesCard : Claim7 := { stood := { row := yscalarLinesRow, standIns := [], harness := (true, "02d6e79d1d14ee116f2bc21045791a059ed1dbcffe3eab9f9cce5bb5672c1dac"), looks := true }, kinds := [], alts := [], laidByText := true, laidKinds := [.data, .data, .data, .data, .sentinel, .sentinel, .pinned], laidTests := true, laidLooks := .later }
def YscalarLinesCardSaid : Prop := Claim7.holds Tryz.pinned (.plain (OpenSpec.ofChange yscalarLinesSpec)) yscalarLinesCard

/-- THE TIED CARD OF 'scarflaw11.YscalarBares'. -/
def yscalarBaresCard : Claim7 := { stood := { row := yscalarBaresRow, standIns := [], harness := (true, "02d6e79d1d14ee116f2bc21045791a059ed1dbcffe3eab9f9cce5bb5672c1dac"), looks := true }, kinds := [], alts := [], laidByText := true, laidKinds := [.data, .data, .data, .data, .sentinel, .sentinel, .pinned], laidTests := true, laidLooks := .later }
def YscalarBaresCardSaid : Prop := Claim7.holds Tryz.pinned (.plain (OpenSpec.ofChange yscalarBaresSpec)) yscalarBaresCard

/-- THE SECOND FORM's CARD OF 'scarflaw11.YscalarReads'. -/
def yscalarReadsUptoCard : Claim7 := { stood := { row := yscalarReadsUptoRow, standIns := [], harness := (true, "02d6e79d1d14ee116f2bc21045791a059ed1dbcffe3eab9f9cce5bb5672c1dac"), looks := true }, kinds := [], alts := [], laidByText := true, laidKinds := [.data, .data, .data, .data, .sentinel, .sentinel, .pinned], laidTests := true, laidLooks := .later }
def YscalarReadsUptoCardSaid : Prop := Claim7.holds Tryz.pinned (.plain (OpenSpec.upto yscalarReadsSpec)) yscalarReadsUptoCard

/-- THE SECOND FORM's CARD OF 'scarflaw11.YscalarWrites'. -/
def yscalarWritesUptoCard : Claim7 := { stood := { row := yscalarWritesUptoRow, standIns := [], harness := (true, "02d6e79d1d14ee116f2bc21045791a059ed1dbcffe3eab9f9cce5bb5672c1dac"), looks := true }, kinds := [], alts := [], laidByText := true, laidKinds := [.data, .data, .data, .data, .sentinel, .sentinel, .pinned], laidTests := true, laidLooks := .later }
def YscalarWritesUptoCardSaid : Prop := Claim7.holds Tryz.pinned (.plain (OpenSpec.upto yscalarWritesSpec)) yscalarWritesUptoCard

/-- THE SECOND FORM's CARD OF 'scarflaw11.YscalarBack'. -/
def yscalarBackUptoCard : Claim7 := { stood := { row := yscalarBackUptoRow, standIns := [], harness := (true, "02d6e79d1d14ee116f2bc21045791a059ed1dbcffe3eab9f9cce5bb5672c1dac"), looks := true }, kinds := [], alts := [], laidByText := true, laidKinds := [.data, .data, .data, .data, .sentinel, .sentinel, .pinned], laidTests := true, laidLooks := .later }
def YscalarBackUptoCardSaid : Prop := Claim7.holds Tryz.pinned (.plain (OpenSpec.upto yscalarBackSpec)) yscalarBackUptoCard

/-- THE SECOND FORM's CARD OF 'scarflaw11.YscalarLines'. -/
def yscalarLinesUptoCard : Claim7 := { stood := { row := yscalarLinesUptoRow, standIns := [], harness := (true, "02d6e79d1d14ee116f2bc21045791a059ed1dbcffe3eab9f9cce5bb5672c1dac"), looks := true }, kinds := [], alts := [], laidByText := true, laidKinds := [.data, .data, .data, .data, .sentinel, .sentinel, .pinned], laidTests := true, laidLooks := .later }
def YscalarLinesUptoCardSaid : Prop := Claim7.holds Tryz.pinned (.plain (OpenSpec.upto yscalarLinesSpec)) yscalarLinesUptoCard

/-- THE SECOND FORM's CARD OF 'scarflaw11.YscalarBares'. -/
def yscalarBaresUptoCard : Claim7 := { stood := { row := yscalarBaresUptoRow, standIns := [], harness := (true, "02d6e79d1d14ee116f2bc21045791a059ed1dbcffe3eab9f9cce5bb5672c1dac"), looks := true }, kinds := [], alts := [], laidByText := true, laidKinds := [.data, .data, .data, .data, .sentinel, .sentinel, .pinned], laidTests := true, laidLooks := .later }
def YscalarBaresUptoCardSaid : Prop := Claim7.holds Tryz.pinned (.plain (OpenSpec.upto yscalarBaresSpec)) yscalarBaresUptoCard
end Rows
end Go.Proofs.YtkafjblfjdpdaaaGreatDoor
