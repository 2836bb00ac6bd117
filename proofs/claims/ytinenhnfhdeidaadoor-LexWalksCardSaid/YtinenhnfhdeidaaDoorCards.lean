/-
  DERIVED. GIVEN WITH THE SEED: THE CARDS: each row of YtinenhnfhdeidaaDoorRows.lean that lists a variable, with what it lists TIED to the program's text (the seventh form; the later family's looks); each row that meets fmt, with fmt's text TOLD by the authors' own Lean function (tested against real Go, not proved from fmt's source: count such statements apart). THE CARD IS WHAT COUNTS. Prove the row's statement (the work); the ties are given (YtinenhnfhdeidaaDoorTie.lean); close each card by the builder's one call (the guide's Derived/Test/ToyasCard.lean, 'card_holds'). Laid BY PROGRAM, IN A SANDBOX (cutbox-door.mjs). By AI agents, Wed Nov 11 2026. No macro, syntax, notation, axiom, sorry.
-/
import Derived.Test.YtinenhnfhdeidaaDoorRows
import GoSem.ClaimSeven
namespace Go.Proofs.YtinenhnfhdeidaaDoor
namespace Rows

/-- THE TIED CARD OF 'scarflaw04.LexTokens'. -/
def lexTokensCard : Claim7 := { stood := { row := lexTokensRow, standIns := [], harness := (true, "b3a7522596faa86cbcd9ad66f247748e8dac174e517f409fa87af0522c138afa"), looks := false }, kinds := [], alts := [], laidByText := true, laidKinds := [.data, .pinned], laidTests := true, laidLooks := .later }
def LexTokensCardSaid : Prop := Claim7.holds Tryd.pinned (.plain (OpenSpec.ofChange lexTokensSpec)) lexTokensCard

/-- THE TIED CARD OF 'scarflaw04.LexWalks'. -/
def lexWalksCard : Claim7 := { stood := { row := lexWalksRow, standIns := [], harness := (true, "b3a7522596faa86cbcd9ad66f247748e8dac174e517f409fa87af0522c138afa"), looks := false }, kinds := [], alts := [], laidByText := true, laidKinds := [.data, .pinned], laidTests := true, laidLooks := .later }
def LexWalksCardSaid : Prop := Claim7.holds Tryd.pinned (.plain (OpenSpec.ofChange lexWalksSpec)) lexWalksCard

/-- THE TIED CARD OF 'scarflaw04.LexWhole'. -/
def lexWholeCard : Claim7 := { stood := { row := lexWholeRow, standIns := [], harness := (true, "b3a7522596faa86cbcd9ad66f247748e8dac174e517f409fa87af0522c138afa"), looks := false }, kinds := [], alts := [], laidByText := true, laidKinds := [.data, .pinned], laidTests := true, laidLooks := .later }
def LexWholeCardSaid : Prop := Claim7.holds Tryd.pinned (.plain (OpenSpec.ofChange lexWholeSpec)) lexWholeCard

/-- THE TIED CARD OF 'scarflaw04.LexAlone'. -/
def lexAloneCard : Claim7 := { stood := { row := lexAloneRow, standIns := [], harness := (true, "b3a7522596faa86cbcd9ad66f247748e8dac174e517f409fa87af0522c138afa"), looks := false }, kinds := [], alts := [], laidByText := true, laidKinds := [.data, .pinned], laidTests := true, laidLooks := .later }
def LexAloneCardSaid : Prop := Claim7.holds Tryd.pinned (.plain (OpenSpec.ofChange lexAloneSpec)) lexAloneCard

/-- THE TIED CARD OF 'scarflaw04.LexJoins'. -/
def lexJoinsCard : Claim7 := { stood := { row := lexJoinsRow, standIns := [], harness := (true, "b3a7522596faa86cbcd9ad66f247748e8dac174e517f409fa87af0522c138afa"), looks := false }, kinds := [], alts := [], laidByText := true, laidKinds := [.data, .pinned], laidTests := true, laidLooks := .later }
def LexJoinsCardSaid : Prop := Claim7.holds Tryd.pinned (.plain (OpenSpec.ofChange lexJoinsSpec)) lexJoinsCard

/-- THE TIED CARD OF 'scarflaw05.JsonParses'. -/
def jsonParsesCard : Claim7 := { stood := { row := jsonParsesRow, standIns := [], harness := (true, "b3a7522596faa86cbcd9ad66f247748e8dac174e517f409fa87af0522c138afa"), looks := false }, kinds := [], alts := [], laidByText := true, laidKinds := [.data, .pinned], laidTests := true, laidLooks := .later }
def JsonParsesCardSaid : Prop := Claim7.holds Tryd.pinned (.plain (OpenSpec.ofChange jsonParsesSpec)) jsonParsesCard

/-- THE TIED CARD OF 'scarflaw05.JsonPaths'. -/
def jsonPathsCard : Claim7 := { stood := { row := jsonPathsRow, standIns := [], harness := (true, "b3a7522596faa86cbcd9ad66f247748e8dac174e517f409fa87af0522c138afa"), looks := false }, kinds := [], alts := [], laidByText := true, laidKinds := [.data, .pinned], laidTests := true, laidLooks := .later }
def JsonPathsCardSaid : Prop := Claim7.holds Tryd.pinned (.plain (OpenSpec.ofChange jsonPathsSpec)) jsonPathsCard

/-- THE TIED CARD OF 'scarflaw05.JsonWhole'. -/
def jsonWholeCard : Claim7 := { stood := { row := jsonWholeRow, standIns := [], harness := (true, "b3a7522596faa86cbcd9ad66f247748e8dac174e517f409fa87af0522c138afa"), looks := false }, kinds := [], alts := [], laidByText := true, laidKinds := [.data, .pinned], laidTests := true, laidLooks := .later }
def JsonWholeCardSaid : Prop := Claim7.holds Tryd.pinned (.plain (OpenSpec.ofChange jsonWholeSpec)) jsonWholeCard

/-- THE TIED CARD OF 'scarflaw05.JsonAlone'. -/
def jsonAloneCard : Claim7 := { stood := { row := jsonAloneRow, standIns := [], harness := (true, "b3a7522596faa86cbcd9ad66f247748e8dac174e517f409fa87af0522c138afa"), looks := false }, kinds := [], alts := [], laidByText := true, laidKinds := [.data, .pinned], laidTests := true, laidLooks := .later }
def JsonAloneCardSaid : Prop := Claim7.holds Tryd.pinned (.plain (OpenSpec.ofChange jsonAloneSpec)) jsonAloneCard

/-- THE TIED CARD OF 'scarflaw05.JsonSpaces'. -/
def jsonSpacesCard : Claim7 := { stood := { row := jsonSpacesRow, standIns := [], harness := (true, "b3a7522596faa86cbcd9ad66f247748e8dac174e517f409fa87af0522c138afa"), looks := false }, kinds := [], alts := [], laidByText := true, laidKinds := [.data, .pinned], laidTests := true, laidLooks := .later }
def JsonSpacesCardSaid : Prop := Claim7.holds Tryd.pinned (.plain (OpenSpec.ofChange jsonSpacesSpec)) jsonSpacesCard

/-- THE TIED CARD OF 'scarflaw05.JsonNests'. -/
def jsonNestsCard : Claim7 := { stood := { row := jsonNestsRow, standIns := [], harness := (true, "b3a7522596faa86cbcd9ad66f247748e8dac174e517f409fa87af0522c138afa"), looks := false }, kinds := [], alts := [], laidByText := true, laidKinds := [.data, .pinned], laidTests := true, laidLooks := .later }
def JsonNestsCardSaid : Prop := Claim7.holds Tryd.pinned (.plain (OpenSpec.ofChange jsonNestsSpec)) jsonNestsCard

/-- THE SECOND FORM's CARD OF 'scarflaw04.LexTokens'. -/
def lexTokensUptoCard : Claim7 := { stood := { row := lexTokensUptoRow, standIns := [], harness := (true, "b3a7522596faa86cbcd9ad66f247748e8dac174e517f409fa87af0522c138afa"), looks := false }, kinds := [], alts := [], laidByText := true, laidKinds := [.data, .pinned], laidTests := true, laidLooks := .later }
def LexTokensUptoCardSaid : Prop := Claim7.holds Tryd.pinned (.plain (OpenSpec.upto lexTokensSpec)) lexTokensUptoCard

/-- THE SECOND FORM's CARD OF 'scarflaw04.LexWalks'. -/
def lexWalksUptoCard : Claim7 := { stood := { row := lexWalksUptoRow, standIns := [], harness := (true, "b3a7522596faa86cbcd9ad66f247748e8dac174e517f409fa87af0522c138afa"), looks := false }, kinds := [], alts := [], laidByText := true, laidKinds := [.data, .pinned], laidTests := true, laidLooks := .later }
def LexWalksUptoCardSaid : Prop := Claim7.holds Tryd.pinned (.plain (OpenSpec.upto lexWalksSpec)) lexWalksUptoCard

/-- THE SECOND FORM's CARD OF 'scarflaw04.LexWhole'. -/
def lexWholeUptoCard : Claim7 := { stood := { row := lexWholeUptoRow, standIns := [], harness := (true, "b3a7522596faa86cbcd9ad66f247748e8dac174e517f409fa87af0522c138afa"), looks := false }, kinds := [], alts := [], laidByText := true, laidKinds := [.data, .pinned], laidTests := true, laidLooks := .later }
def LexWholeUptoCardSaid : Prop := Claim7.holds Tryd.pinned (.plain (OpenSpec.upto lexWholeSpec)) lexWholeUptoCard

/-- THE SECOND FORM's CARD OF 'scarflaw04.LexAlone'. -/
def lexAloneUptoCard : Claim7 := { stood := { row := lexAloneUptoRow, standIns := [], harness := (true, "b3a7522596faa86cbcd9ad66f247748e8dac174e517f409fa87af0522c138afa"), looks := false }, kinds := [], alts := [], laidByText := true, laidKinds := [.data, .pinned], laidTests := true, laidLooks := .later }
def LexAloneUptoCardSaid : Prop := Claim7.holds Tryd.pinned (.plain (OpenSpec.upto lexAloneSpec)) lexAloneUptoCard

/-- THE SECOND FORM's CARD OF 'scarflaw04.LexJoins'. -/
def lexJoinsUptoCard : Claim7 := { stood := { row := lexJoinsUptoRow, standIns := [], harness := (true, "b3a7522596faa86cbcd9ad66f247748e8dac174e517f409fa87af0522c138afa"), looks := false }, kinds := [], alts := [], laidByText := true, laidKinds := [.data, .pinned], laidTests := true, laidLooks := .later }
def LexJoinsUptoCardSaid : Prop := Claim7.holds Tryd.pinned (.plain (OpenSpec.upto lexJoinsSpec)) lexJoinsUptoCard

/-- THE SECOND FORM's CARD OF 'scarflaw05.JsonParses'. -/
def jsonParsesUptoCard : Claim7 := { stood := { row := jsonParsesUptoRow, standIns := [], harness := (true, "b3a7522596faa86cbcd9ad66f247748e8dac174e517f409fa87af0522c138afa"), looks := false }, kinds := [], alts := [], laidByText := true, laidKinds := [.data, .pinned], laidTests := true, laidLooks := .later }
def JsonParsesUptoCardSaid : Prop := Claim7.holds Tryd.pinned (.plain (OpenSpec.upto jsonParsesSpec)) jsonParsesUptoCard

/-- THE SECOND FORM's CARD OF 'scarflaw05.JsonPaths'. -/
def jsonPathsUptoCard : Claim7 := { stood := { row := jsonPathsUptoRow, standIns := [], harness := (true, "b3a7522596faa86cbcd9ad66f247748e8dac174e517f409fa87af0522c138afa"), looks := false }, kinds := [], alts := [], laidByText := true, laidKinds := [.data, .pinned], laidTests := true, laidLooks := .later }
def JsonPathsUptoCardSaid : Prop := Claim7.holds Tryd.pinned (.plain (OpenSpec.upto jsonPathsSpec)) jsonPathsUptoCard

/-- THE SECOND FORM's CARD OF 'scarflaw05.JsonWhole'. -/
def jsonWholeUptoCard : Claim7 := { stood := { row := jsonWholeUptoRow, standIns := [], harness := (true, "b3a7522596faa86cbcd9ad66f247748e8dac174e517f409fa87af0522c138afa"), looks := false }, kinds := [], alts := [], laidByText := true, laidKinds := [.data, .pinned], laidTests := true, laidLooks := .later }
def JsonWholeUptoCardSaid : Prop := Claim7.holds Tryd.pinned (.plain (OpenSpec.upto jsonWholeSpec)) jsonWholeUptoCard

/-- THE SECOND FORM's CARD OF 'scarflaw05.JsonAlone'. -/
def jsonAloneUptoCard : Claim7 := { stood := { row := jsonAloneUptoRow, standIns := [], harness := (true, "b3a7522596faa86cbcd9ad66f247748e8dac174e517f409fa87af0522c138afa"), looks := false }, kinds := [], alts := [], laidByText := true, laidKinds := [.data, .pinned], laidTests := true, laidLooks := .later }
def JsonAloneUptoCardSaid : Prop := Claim7.holds Tryd.pinned (.plain (OpenSpec.upto jsonAloneSpec)) jsonAloneUptoCard

/-- THE SECOND FORM's CARD OF 'scarflaw05.JsonSpaces'. -/
def jsonSpacesUptoCard : Claim7 := { stood := { row := jsonSpacesUptoRow, standIns := [], harness := (true, "b3a7522596faa86cbcd9ad66f247748e8dac174e517f409fa87af0522c138afa"), looks := false }, kinds := [], alts := [], laidByText := true, laidKinds := [.data, .pinned], laidTests := true, laidLooks := .later }
def JsonSpacesUptoCardSaid : Prop := Claim7.holds Tryd.pinned (.plain (OpenSpec.upto jsonSpacesSpec)) jsonSpacesUptoCard

/-- THE SECOND FORM's CARD OF 'scarflaw05.JsonNests'. -/
def jsonNestsUptoCard : Claim7 := { stood := { row := jsonNestsUptoRow, standIns := [], harness := (true, "b3a7522596faa86cbcd9ad66f247748e8dac174e517f409fa87af0522c138afa"), looks := false }, kinds := [], alts := [], laidByText := true, laidKinds := [.data, .pinned], laidTests := true, laidLooks := .later }
def JsonNestsUptoCardSaid : Prop := Claim7.holds Tryd.pinned (.plain (OpenSpec.upto jsonNestsSpec)) jsonNestsUptoCard
end Rows
end Go.Proofs.YtinenhnfhdeidaaDoor
