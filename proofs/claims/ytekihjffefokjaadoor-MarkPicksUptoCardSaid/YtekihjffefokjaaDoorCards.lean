/-
  DERIVED. GIVEN WITH THE SEED: THE CARDS: each row of YtekihjffefokjaaDoorRows.lean that lists a variable, with what it lists TIED to the program's text (the seventh form; the later family's looks); each row that meets fmt, with fmt's text TOLD by the authors' own Lean function (tested against real Go, not proved from fmt's source: count such statements apart). THE CARD IS WHAT COUNTS. Prove the row's statement (the work); the ties are given (YtekihjffefokjaaDoorTie.lean); close each card by the builder's one call (the guide's Derived/Test/ToyasCard.lean, 'card_holds'). Laid BY PROGRAM, IN A SANDBOX (cutbox-door.mjs). By AI agents, Wed Nov 11 2026. No macro, syntax, notation, axiom, sorry.
-/
import Derived.Test.YtekihjffefokjaaDoorRows
import GoSem.ClaimSeven
namespace Go.Proofs.YtekihjffefokjaaDoor
namespace Rows

/-- THE TIED CARD OF 'scarflaw10.YlineLines'. -/
def ylineLinesCard : Claim7 := { stood := { row := ylineLinesRow, standIns := [], harness := (true, "4b9d2cd7e69c74aeb9aa276074cc035b0b8dc901e1bd72ceccb9442bd30617c0"), looks := true }, kinds := [], alts := [], laidByText := true, laidKinds := [.data, .pinned], laidTests := true, laidLooks := .later }
def YlineLinesCardSaid : Prop := Claim7.holds Tryd.pinned (.plain (OpenSpec.ofChange ylineLinesSpec)) ylineLinesCard

/-- THE TIED CARD OF 'scarflaw10.YlineQuotes'. -/
def ylineQuotesCard : Claim7 := { stood := { row := ylineQuotesRow, standIns := [], harness := (true, "4b9d2cd7e69c74aeb9aa276074cc035b0b8dc901e1bd72ceccb9442bd30617c0"), looks := true }, kinds := [], alts := [], laidByText := true, laidKinds := [.data, .pinned], laidTests := true, laidLooks := .later }
def YlineQuotesCardSaid : Prop := Claim7.holds Tryd.pinned (.plain (OpenSpec.ofChange ylineQuotesSpec)) ylineQuotesCard

/-- THE TIED CARD OF 'scarflaw10.YlineBack'. -/
def ylineBackCard : Claim7 := { stood := { row := ylineBackRow, standIns := [], harness := (true, "4b9d2cd7e69c74aeb9aa276074cc035b0b8dc901e1bd72ceccb9442bd30617c0"), looks := true }, kinds := [], alts := [], laidByText := true, laidKinds := [.data, .pinned], laidTests := true, laidLooks := .later }
def YlineBackCardSaid : Prop := Claim7.holds Tryd.pinned (.plain (OpenSpec.ofChange ylineBackSpec)) ylineBackCard

/-- THE TIED CARD OF 'scarflaw10.YlineParts'. -/
def ylinePartsCard : Claim7 := { stood := { row := ylinePartsRow, standIns := [], harness := (true, "4b9d2cd7e69c74aeb9aa276074cc035b0b8dc901e1bd72ceccb9442bd30617c0"), looks := true }, kinds := [], alts := [], laidByText := true, laidKinds := [.data, .pinned], laidTests := true, laidLooks := .later }
def YlinePartsCardSaid : Prop := Claim7.holds Tryd.pinned (.plain (OpenSpec.ofChange ylinePartsSpec)) ylinePartsCard

/-- THE TIED CARD OF 'scarflaw10.YlineIndents'. -/
def ylineIndentsCard : Claim7 := { stood := { row := ylineIndentsRow, standIns := [], harness := (true, "4b9d2cd7e69c74aeb9aa276074cc035b0b8dc901e1bd72ceccb9442bd30617c0"), looks := true }, kinds := [], alts := [], laidByText := true, laidKinds := [.data, .pinned], laidTests := true, laidLooks := .later }
def YlineIndentsCardSaid : Prop := Claim7.holds Tryd.pinned (.plain (OpenSpec.ofChange ylineIndentsSpec)) ylineIndentsCard

/-- THE TIED CARD OF 'scarflaw25.MarkWrites'. -/
def markWritesCard : Claim7 := { stood := { row := markWritesRow, standIns := [], harness := (true, "4b9d2cd7e69c74aeb9aa276074cc035b0b8dc901e1bd72ceccb9442bd30617c0"), looks := true }, kinds := [], alts := [], laidByText := true, laidKinds := [.data, .data, .data, .data, .sentinel, .sentinel, .pinned], laidTests := true, laidLooks := .later }
def MarkWritesCardSaid : Prop := Claim7.holds Tryd.pinned (.plain (OpenSpec.ofChange markWritesSpec)) markWritesCard

/-- THE TIED CARD OF 'scarflaw25.MarkReads'. -/
def markReadsCard : Claim7 := { stood := { row := markReadsRow, standIns := [], harness := (true, "4b9d2cd7e69c74aeb9aa276074cc035b0b8dc901e1bd72ceccb9442bd30617c0"), looks := true }, kinds := [], alts := [], laidByText := true, laidKinds := [.data, .data, .data, .data, .sentinel, .sentinel, .pinned], laidTests := true, laidLooks := .later }
def MarkReadsCardSaid : Prop := Claim7.holds Tryd.pinned (.plain (OpenSpec.ofChange markReadsSpec)) markReadsCard

/-- THE TIED CARD OF 'scarflaw25.MarkBack'. -/
def markBackCard : Claim7 := { stood := { row := markBackRow, standIns := [], harness := (true, "4b9d2cd7e69c74aeb9aa276074cc035b0b8dc901e1bd72ceccb9442bd30617c0"), looks := true }, kinds := [], alts := [], laidByText := true, laidKinds := [.data, .data, .data, .data, .sentinel, .sentinel, .pinned], laidTests := true, laidLooks := .later }
def MarkBackCardSaid : Prop := Claim7.holds Tryd.pinned (.plain (OpenSpec.ofChange markBackSpec)) markBackCard

/-- THE TIED CARD OF 'scarflaw25.MarkLines'. -/
def markLinesCard : Claim7 := { stood := { row := markLinesRow, standIns := [], harness := (true, "4b9d2cd7e69c74aeb9aa276074cc035b0b8dc901e1bd72ceccb9442bd30617c0"), looks := true }, kinds := [], alts := [], laidByText := true, laidKinds := [.data, .data, .data, .data, .sentinel, .sentinel, .pinned], laidTests := true, laidLooks := .later }
def MarkLinesCardSaid : Prop := Claim7.holds Tryd.pinned (.plain (OpenSpec.ofChange markLinesSpec)) markLinesCard

/-- THE TIED CARD OF 'scarflaw25.MarkPicks'. -/
def markPicksCard : Claim7 := { stood := { row := markPicksRow, standIns := [], harness := (true, "4b9d2cd7e69c74aeb9aa276074cc035b0b8dc901e1bd72ceccb9442bd30617c0"), looks := true }, kinds := [], alts := [], laidByText := true, laidKinds := [.data, .data, .data, .data, .sentinel, .sentinel, .pinned], laidTests := true, laidLooks := .later }
def MarkPicksCardSaid : Prop := Claim7.holds Tryd.pinned (.plain (OpenSpec.ofChange markPicksSpec)) markPicksCard

/-- THE TIED CARD OF 'scarflaw25.MarkNests'. -/
def markNestsCard : Claim7 := { stood := { row := markNestsRow, standIns := [], harness := (true, "4b9d2cd7e69c74aeb9aa276074cc035b0b8dc901e1bd72ceccb9442bd30617c0"), looks := true }, kinds := [], alts := [], laidByText := true, laidKinds := [.data, .data, .data, .data, .sentinel, .sentinel, .pinned], laidTests := true, laidLooks := .later }
def MarkNestsCardSaid : Prop := Claim7.holds Tryd.pinned (.plain (OpenSpec.ofChange markNestsSpec)) markNestsCard

/-- THE SECOND FORM's CARD OF 'scarflaw10.YlineLines'. -/
def ylineLinesUptoCard : Claim7 := { stood := { row := ylineLinesUptoRow, standIns := [], harness := (true, "4b9d2cd7e69c74aeb9aa276074cc035b0b8dc901e1bd72ceccb9442bd30617c0"), looks := true }, kinds := [], alts := [], laidByText := true, laidKinds := [.data, .pinned], laidTests := true, laidLooks := .later }
def YlineLinesUptoCardSaid : Prop := Claim7.holds Tryd.pinned (.plain (OpenSpec.upto ylineLinesSpec)) ylineLinesUptoCard

/-- THE SECOND FORM's CARD OF 'scarflaw10.YlineQuotes'. -/
def ylineQuotesUptoCard : Claim7 := { stood := { row := ylineQuotesUptoRow, standIns := [], harness := (true, "4b9d2cd7e69c74aeb9aa276074cc035b0b8dc901e1bd72ceccb9442bd30617c0"), looks := true }, kinds := [], alts := [], laidByText := true, laidKinds := [.data, .pinned], laidTests := true, laidLooks := .later }
def YlineQuotesUptoCardSaid : Prop := Claim7.holds Tryd.pinned (.plain (OpenSpec.upto ylineQuotesSpec)) ylineQuotesUptoCard

/-- THE SECOND FORM's CARD OF 'scarflaw10.YlineBack'. -/
def ylineBackUptoCard : Claim7 := { stood := { row := ylineBackUptoRow, standIns := [], harness := (true, "4b9d2cd7e69c74aeb9aa276074cc035b0b8dc901e1bd72ceccb9442bd30617c0"), looks := true }, kinds := [], alts := [], laidByText := true, laidKinds := [.data, .pinned], laidTests := true, laidLooks := .later }
def YlineBackUptoCardSaid : Prop := Claim7.holds Tryd.pinned (.plain (OpenSpec.upto ylineBackSpec)) ylineBackUptoCard

/-- THE SECOND FORM's CARD OF 'scarflaw10.YlineParts'. -/
def ylinePartsUptoCard : Claim7 := { stood := { row := ylinePartsUptoRow, standIns := [], harness := (true, "4b9d2cd7e69c74aeb9aa276074cc035b0b8dc901e1bd72ceccb9442bd30617c0"), looks := true }, kinds := [], alts := [], laidByText := true, laidKinds := [.data, .pinned], laidTests := true, laidLooks := .later }
def YlinePartsUptoCardSaid : Prop := Claim7.holds Tryd.pinned (.plain (OpenSpec.upto ylinePartsSpec)) ylinePartsUptoCard

/-- THE SECOND FORM's CARD OF 'scarflaw10.YlineIndents'. -/
def ylineIndentsUptoCard : Claim7 := { stood := { row := ylineIndentsUptoRow, standIns := [], harness := (true, "4b9d2cd7e69c74aeb9aa276074cc035b0b8dc901e1bd72ceccb9442bd30617c0"), looks := true }, kinds := [], alts := [], laidByText := true, laidKinds := [.data, .pinned], laidTests := true, laidLooks := .later }
def YlineIndentsUptoCardSaid : Prop := Claim7.holds Tryd.pinned (.plain (OpenSpec.upto ylineIndentsSpec)) ylineIndentsUptoCard

/-- THE SECOND FORM's CARD OF 'scarflaw25.MarkWrites'. -/
def markWritesUptoCard : Claim7 := { stood := { row := markWritesUptoRow, standIns := [], harness := (true, "4b9d2cd7e69c74aeb9aa276074cc035b0b8dc901e1bd72ceccb9442bd30617c0"), looks := true }, kinds := [], alts := [], laidByText := true, laidKinds := [.data, .data, .data, .data, .sentinel, .sentinel, .pinned], laidTests := true, laidLooks := .later }
def MarkWritesUptoCardSaid : Prop := Claim7.holds Tryd.pinned (.plain (OpenSpec.upto markWritesSpec)) markWritesUptoCard

/-- THE SECOND FORM's CARD OF 'scarflaw25.MarkReads'. -/
def markReadsUptoCard : Claim7 := { stood := { row := markReadsUptoRow, standIns := [], harness := (true, "4b9d2cd7e69c74aeb9aa276074cc035b0b8dc901e1bd72ceccb9442bd30617c0"), looks := true }, kinds := [], alts := [], laidByText := true, laidKinds := [.data, .data, .data, .data, .sentinel, .sentinel, .pinned], laidTests := true, laidLooks := .later }
def MarkReadsUptoCardSaid : Prop := Claim7.holds Tryd.pinned (.plain (OpenSpec.upto markReadsSpec)) markReadsUptoCard

/-- THE SECOND FORM's CARD OF 'scarflaw25.MarkBack'. -/
def markBackUptoCard : Claim7 := { stood := { row := markBackUptoRow, standIns := [], harness := (true, "4b9d2cd7e69c74aeb9aa276074cc035b0b8dc901e1bd72ceccb9442bd30617c0"), looks := true }, kinds := [], alts := [], laidByText := true, laidKinds := [.data, .data, .data, .data, .sentinel, .sentinel, .pinned], laidTests := true, laidLooks := .later }
def MarkBackUptoCardSaid : Prop := Claim7.holds Tryd.pinned (.plain (OpenSpec.upto markBackSpec)) markBackUptoCard

/-- THE SECOND FORM's CARD OF 'scarflaw25.MarkLines'. -/
def markLinesUptoCard : Claim7 := { stood := { row := markLinesUptoRow, standIns := [], harness := (true, "4b9d2cd7e69c74aeb9aa276074cc035b0b8dc901e1bd72ceccb9442bd30617c0"), looks := true }, kinds := [], alts := [], laidByText := true, laidKinds := [.data, .data, .data, .data, .sentinel, .sentinel, .pinned], laidTests := true, laidLooks := .later }
def MarkLinesUptoCardSaid : Prop := Claim7.holds Tryd.pinned (.plain (OpenSpec.upto markLinesSpec)) markLinesUptoCard

/-- THE SECOND FORM's CARD OF 'scarflaw25.MarkPicks'. -/
def markPicksUptoCard : Claim7 := { stood := { row := markPicksUptoRow, standIns := [], harness := (true, "4b9d2cd7e69c74aeb9aa276074cc035b0b8dc901e1bd72ceccb9442bd30617c0"), looks := true }, kinds := [], alts := [], laidByText := true, laidKinds := [.data, .data, .data, .data, .sentinel, .sentinel, .pinned], laidTests := true, laidLooks := .later }
def MarkPicksUptoCardSaid : Prop := Claim7.holds Tryd.pinned (.plain (OpenSpec.upto markPicksSpec)) markPicksUptoCard

/-- THE SECOND FORM's CARD OF 'scarflaw25.MarkNests'. -/
def markNestsUptoCard : Claim7 := { stood := { row := markNestsUptoRow, standIns := [], harness := (true, "4b9d2cd7e69c74aeb9aa276074cc035b0b8dc901e1bd72ceccb9442bd30617c0"), looks := true }, kinds := [], alts := [], laidByText := true, laidKinds := [.data, .data, .data, .data, .sentinel, .sentinel, .pinned], laidTests := true, laidLooks := .later }
def MarkNestsUptoCardSaid : Prop := Claim7.holds Tryd.pinned (.plain (OpenSpec.upto markNestsSpec)) markNestsUptoCard
end Rows
end Go.Proofs.YtekihjffefokjaaDoor
