/-
  DERIVED. GIVEN WITH THE SEED: THE CARDS: each row of YtfibmmmbpfnccaaGreatDoorRows.lean that lists a variable, with what it lists TIED to the program's text (the seventh form; the later family's looks); each row that meets fmt, with fmt's text TOLD by the authors' own Lean function (tested against real Go, not proved from fmt's source: count such statements apart). THE CARD IS WHAT COUNTS. Prove the row's statement (the work); the ties are given (YtfibmmmbpfnccaaGreatDoorTie.lean); close each card by the builder's one call (the guide's Derived/Test/ToyasCard.lean, 'card_holds'). Laid BY PROGRAM, IN A SANDBOX (cutbox-door.mjs). By AI agents, Wed Nov 11 2026. No macro, syntax, notation, axiom, sorry.
-/
import Derived.Test.YtfibmmmbpfnccaaGreatDoorRows
import GoSem.ClaimSeven
namespace Go.Proofs.YtfibmmmbpfnccaaGreatDoor
namespace Rows

/-- THE TIED CARD OF 'scarflaw06.ValueTells'. -/
def valueTellsCard : Claim7 := { stood := { row := valueTellsRow, standIns := [], harness := (true, "4e203a9f98acedd693b989ddb85c5411b1015dba49d5cd44454b6994cb3bdc56"), looks := true }, kinds := [], alts := [], laidByText := true, laidKinds := [.data, .data, .data, .data, .sentinel, .sentinel, .pinned], laidTests := true, laidLooks := .later }
def ValueTellsCardSaid : Prop := Claim7.holds Tryz.pinned (.plain (OpenSpec.ofChange valueTellsSpec)) valueTellsCard

/-- THE TIED CARD OF 'scarflaw06.ValueStands'. -/
def valueStandsCard : Claim7 := { stood := { row := valueStandsRow, standIns := [], harness := (true, "4e203a9f98acedd693b989ddb85c5411b1015dba49d5cd44454b6994cb3bdc56"), looks := true }, kinds := [], alts := [], laidByText := true, laidKinds := [.data, .data, .data, .data, .sentinel, .sentinel, .pinned], laidTests := true, laidLooks := .later }
def ValueStandsCardSaid : Prop := Claim7.holds Tryz.pinned (.plain (OpenSpec.ofChange valueStandsSpec)) valueStandsCard

/-- THE TIED CARD OF 'scarflaw06.ValueOrders'. -/
def valueOrdersCard : Claim7 := { stood := { row := valueOrdersRow, standIns := [], harness := (true, "4e203a9f98acedd693b989ddb85c5411b1015dba49d5cd44454b6994cb3bdc56"), looks := true }, kinds := [], alts := [], laidByText := true, laidKinds := [.data, .data, .data, .data, .sentinel, .sentinel, .pinned], laidTests := true, laidLooks := .later }
def ValueOrdersCardSaid : Prop := Claim7.holds Tryz.pinned (.plain (OpenSpec.ofChange valueOrdersSpec)) valueOrdersCard

/-- THE TIED CARD OF 'scarflaw06.ValueSorts'. -/
def valueSortsCard : Claim7 := { stood := { row := valueSortsRow, standIns := [], harness := (true, "4e203a9f98acedd693b989ddb85c5411b1015dba49d5cd44454b6994cb3bdc56"), looks := true }, kinds := [], alts := [], laidByText := true, laidKinds := [.data, .data, .data, .data, .sentinel, .sentinel, .pinned], laidTests := true, laidLooks := .later }
def ValueSortsCardSaid : Prop := Claim7.holds Tryz.pinned (.plain (OpenSpec.ofChange valueSortsSpec)) valueSortsCard

/-- THE TIED CARD OF 'scarflaw06.ValueHolds'. -/
def valueHoldsCard : Claim7 := { stood := { row := valueHoldsRow, standIns := [], harness := (true, "4e203a9f98acedd693b989ddb85c5411b1015dba49d5cd44454b6994cb3bdc56"), looks := true }, kinds := [], alts := [], laidByText := true, laidKinds := [.data, .data, .data, .data, .sentinel, .sentinel, .pinned], laidTests := true, laidLooks := .later }
def ValueHoldsCardSaid : Prop := Claim7.holds Tryz.pinned (.plain (OpenSpec.ofChange valueHoldsSpec)) valueHoldsCard

/-- THE TIED CARD OF 'scarflaw07.PointerTexts'. -/
def pointerTextsCard : Claim7 := { stood := { row := pointerTextsRow, standIns := [], harness := (true, "4e203a9f98acedd693b989ddb85c5411b1015dba49d5cd44454b6994cb3bdc56"), looks := true }, kinds := [], alts := [], laidByText := true, laidKinds := [.data, .data, .data, .data, .sentinel, .sentinel, .pinned], laidTests := true, laidLooks := .later }
def PointerTextsCardSaid : Prop := Claim7.holds Tryz.pinned (.plain (OpenSpec.ofChange pointerTextsSpec)) pointerTextsCard

/-- THE TIED CARD OF 'scarflaw07.PointerFinds'. -/
def pointerFindsCard : Claim7 := { stood := { row := pointerFindsRow, standIns := [], harness := (true, "4e203a9f98acedd693b989ddb85c5411b1015dba49d5cd44454b6994cb3bdc56"), looks := true }, kinds := [], alts := [], laidByText := true, laidKinds := [.data, .data, .data, .data, .sentinel, .sentinel, .pinned], laidTests := true, laidLooks := .later }
def PointerFindsCardSaid : Prop := Claim7.holds Tryz.pinned (.plain (OpenSpec.ofChange pointerFindsSpec)) pointerFindsCard

/-- THE TIED CARD OF 'scarflaw07.PointerBack'. -/
def pointerBackCard : Claim7 := { stood := { row := pointerBackRow, standIns := [], harness := (true, "4e203a9f98acedd693b989ddb85c5411b1015dba49d5cd44454b6994cb3bdc56"), looks := true }, kinds := [], alts := [], laidByText := true, laidKinds := [.data, .data, .data, .data, .sentinel, .sentinel, .pinned], laidTests := true, laidLooks := .later }
def PointerBackCardSaid : Prop := Claim7.holds Tryz.pinned (.plain (OpenSpec.ofChange pointerBackSpec)) pointerBackCard

/-- THE TIED CARD OF 'scarflaw07.PointerSets'. -/
def pointerSetsCard : Claim7 := { stood := { row := pointerSetsRow, standIns := [], harness := (true, "4e203a9f98acedd693b989ddb85c5411b1015dba49d5cd44454b6994cb3bdc56"), looks := true }, kinds := [], alts := [], laidByText := true, laidKinds := [.data, .data, .data, .data, .sentinel, .sentinel, .pinned], laidTests := true, laidLooks := .later }
def PointerSetsCardSaid : Prop := Claim7.holds Tryz.pinned (.plain (OpenSpec.ofChange pointerSetsSpec)) pointerSetsCard

/-- THE TIED CARD OF 'scarflaw07.PointerOrders'. -/
def pointerOrdersCard : Claim7 := { stood := { row := pointerOrdersRow, standIns := [], harness := (true, "4e203a9f98acedd693b989ddb85c5411b1015dba49d5cd44454b6994cb3bdc56"), looks := true }, kinds := [], alts := [], laidByText := true, laidKinds := [.data, .data, .data, .data, .sentinel, .sentinel, .pinned], laidTests := true, laidLooks := .later }
def PointerOrdersCardSaid : Prop := Claim7.holds Tryz.pinned (.plain (OpenSpec.ofChange pointerOrdersSpec)) pointerOrdersCard

/-- THE TIED CARD OF 'scarflaw07.PointerWalks'. -/
def pointerWalksCard : Claim7 := { stood := { row := pointerWalksRow, standIns := [], harness := (true, "4e203a9f98acedd693b989ddb85c5411b1015dba49d5cd44454b6994cb3bdc56"), looks := true }, kinds := [], alts := [], laidByText := true, laidKinds := [.data, .data, .data, .data, .sentinel, .sentinel, .pinned], laidTests := true, laidLooks := .later }
def PointerWalksCardSaid : Prop := Claim7.holds Tryz.pinned (.plain (OpenSpec.ofChange pointerWalksSpec)) pointerWalksCard

/-- THE SECOND FORM's CARD OF 'scarflaw06.ValueTells'. -/
def valueTellsUptoCard : Claim7 := { stood := { row := valueTellsUptoRow, standIns := [], harness := (true, "4e203a9f98acedd693b989ddb85c5411b1015dba49d5cd44454b6994cb3bdc56"), looks := true }, kinds := [], alts := [], laidByText := true, laidKinds := [.data, .data, .data, .data, .sentinel, .sentinel, .pinned], laidTests := true, laidLooks := .later }
def ValueTellsUptoCardSaid : Prop := Claim7.holds Tryz.pinned (.plain (OpenSpec.upto valueTellsSpec)) valueTellsUptoCard

/-- THE SECOND FORM's CARD OF 'scarflaw06.ValueStands'. -/
def valueStandsUptoCard : Claim7 := { stood := { row := valueStandsUptoRow, standIns := [], harness := (true, "4e203a9f98acedd693b989ddb85c5411b1015dba49d5cd44454b6994cb3bdc56"), looks := true }, kinds := [], alts := [], laidByText := true, laidKinds := [.data, .data, .data, .data, .sentinel, .sentinel, .pinned], laidTests := true, laidLooks := .later }
def ValueStandsUptoCardSaid : Prop := Claim7.holds Tryz.pinned (.plain (OpenSpec.upto valueStandsSpec)) valueStandsUptoCard

/-- THE SECOND FORM's CARD OF 'scarflaw06.ValueOrders'. -/
def valueOrdersUptoCard : Claim7 := { stood := { row := valueOrdersUptoRow, standIns := [], harness := (true, "4e203a9f98acedd693b989ddb85c5411b1015dba49d5cd44454b6994cb3bdc56"), looks := true }, kinds := [], alts := [], laidByText := true, laidKinds := [.data, .data, .data, .data, .sentinel, .sentinel, .pinned], laidTests := true, laidLooks := .later }
def ValueOrdersUptoCardSaid : Prop := Claim7.holds Tryz.pinned (.plain (OpenSpec.upto valueOrdersSpec)) valueOrdersUptoCard

/-- THE SECOND FORM's CARD OF 'scarflaw06.ValueSorts'. -/
def valueSortsUptoCard : Claim7 := { stood := { row := valueSortsUptoRow, standIns := [], harness := (true, "4e203a9f98acedd693b989ddb85c5411b1015dba49d5cd44454b6994cb3bdc56"), looks := true }, kinds := [], alts := [], laidByText := true, laidKinds := [.data, .data, .data, .data, .sentinel, .sentinel, .pinned], laidTests := true, laidLooks := .later }
def ValueSortsUptoCardSaid : Prop := Claim7.holds Tryz.pinned (.plain (OpenSpec.upto valueSortsSpec)) valueSortsUptoCard

/-- THE SECOND FORM's CARD OF 'scarflaw06.ValueHolds'. -/
def valueHoldsUptoCard : Claim7 := { stood := { row := valueHoldsUptoRow, standIns := [], harness := (true, "4e203a9f98acedd693b989ddb85c5411b1015dba49d5cd44454b6994cb3bdc56"), looks := true }, kinds := [], alts := [], laidByText := true, laidKinds := [.data, .data, .data, .data, .sentinel, .sentinel, .pinned], laidTests := true, laidLooks := .later }
def ValueHoldsUptoCardSaid : Prop := Claim7.holds Tryz.pinned (.plain (OpenSpec.upto valueHoldsSpec)) valueHoldsUptoCard

/-- THE SECOND FORM's CARD OF 'scarflaw07.PointerTexts'. -/
def pointerTextsUptoCard : Claim7 := { stood := { row := pointerTextsUptoRow, standIns := [], harness := (true, "4e203a9f98acedd693b989ddb85c5411b1015dba49d5cd44454b6994cb3bdc56"), looks := true }, kinds := [], alts := [], laidByText := true, laidKinds := [.data, .data, .data, .data, .sentinel, .sentinel, .pinned], laidTests := true, laidLooks := .later }
def PointerTextsUptoCardSaid : Prop := Claim7.holds Tryz.pinned (.plain (OpenSpec.upto pointerTextsSpec)) pointerTextsUptoCard

/-- THE SECOND FORM's CARD OF 'scarflaw07.PointerFinds'. -/
def pointerFindsUptoCard : Claim7 := { stood := { row := pointerFindsUptoRow, standIns := [], harness := (true, "4e203a9f98acedd693b989ddb85c5411b1015dba49d5cd44454b6994cb3bdc56"), looks := true }, kinds := [], alts := [], laidByText := true, laidKinds := [.data, .data, .data, .data, .sentinel, .sentinel, .pinned], laidTests := true, laidLooks := .later }
def PointerFindsUptoCardSaid : Prop := Claim7.holds Tryz.pinned (.plain (OpenSpec.upto pointerFindsSpec)) pointerFindsUptoCard

/-- THE SECOND FORM's CARD OF 'scarflaw07.PointerBack'. -/
def pointerBackUptoCard : Claim7 := { stood := { row := pointerBackUptoRow, standIns := [], harness := (true, "4e203a9f98acedd693b989ddb85c5411b1015dba49d5cd44454b6994cb3bdc56"), looks := true }, kinds := [], alts := [], laidByText := true, laidKinds := [.data, .data, .data, .data, .sentinel, .sentinel, .pinned], laidTests := true, laidLooks := .later }
def PointerBackUptoCardSaid : Prop := Claim7.holds Tryz.pinned (.plain (OpenSpec.upto pointerBackSpec)) pointerBackUptoCard

/-- THE SECOND FORM's CARD OF 'scarflaw07.PointerSets'. -/
def pointerSetsUptoCard : Claim7 := { stood := { row := pointerSetsUptoRow, standIns := [], harness := (true, "4e203a9f98acedd693b989ddb85c5411b1015dba49d5cd44454b6994cb3bdc56"), looks := true }, kinds := [], alts := [], laidByText := true, laidKinds := [.data, .data, .data, .data, .sentinel, .sentinel, .pinned], laidTests := true, laidLooks := .later }
def PointerSetsUptoCardSaid : Prop := Claim7.holds Tryz.pinned (.plain (OpenSpec.upto pointerSetsSpec)) pointerSetsUptoCard

/-- THE SECOND FORM's CARD OF 'scarflaw07.PointerOrders'. -/
def pointerOrdersUptoCard : Claim7 := { stood := { row := pointerOrdersUptoRow, standIns := [], harness := (true, "4e203a9f98acedd693b989ddb85c5411b1015dba49d5cd44454b6994cb3bdc56"), looks := true }, kinds := [], alts := [], laidByText := true, laidKinds := [.data, .data, .data, .data, .sentinel, .sentinel, .pinned], laidTests := true, laidLooks := .later }
def PointerOrdersUptoCardSaid : Prop := Claim7.holds Tryz.pinned (.plain (OpenSpec.upto pointerOrdersSpec)) pointerOrdersUptoCard

/-- THE SECOND FORM's CARD OF 'scarflaw07.PointerWalks'. -/
def pointerWalksUptoCard : Claim7 := { stood := { row := pointerWalksUptoRow, standIns := [], harness := (true, "4e203a9f98acedd693b989ddb85c5411b1015dba49d5cd44454b6994cb3bdc56"), looks := true }, kinds := [], alts := [], laidByText := true, laidKinds := [.data, .data, .data, .data, .sentinel, .sentinel, .pinned], laidTests := true, laidLooks := .later }
def PointerWalksUptoCardSaid : Prop := Claim7.holds Tryz.pinned (.plain (OpenSpec.upto pointerWalksSpec)) pointerWalksUptoCard
end Rows
end Go.Proofs.YtfibmmmbpfnccaaGreatDoor
