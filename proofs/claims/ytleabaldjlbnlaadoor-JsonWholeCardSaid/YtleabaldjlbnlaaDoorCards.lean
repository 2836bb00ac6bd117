/-
  DERIVED. GIVEN WITH THE SEED: THE CARDS: each row of YtleabaldjlbnlaaDoorRows.lean that lists a variable, with what it lists TIED to the program's text (the seventh form; the later family's looks); each row that meets fmt, with fmt's text TOLD by the authors' own Lean function (tested against real Go, not proved from fmt's source: count such statements apart). THE CARD IS WHAT COUNTS. Prove the row's statement (the work); the ties are given (YtleabaldjlbnlaaDoorTie.lean); close each card by the builder's one call (the guide's Derived/Test/ToyasCard.lean, 'card_holds'). Laid BY PROGRAM, IN A SANDBOX (cutbox-door.mjs). By AI agents, Wed Nov 11 2026. No macro, syntax, notation, axiom, sorry.
-/
import Derived.Test.YtleabaldjlbnlaaDoorRows
import GoSem.ClaimSeven
namespace Go.Proofs.YtleabaldjlbnlaaDoor
namespace Rows

/-- THE TIED CARD OF 'scarflaw05.JsonParses'. -/
def jsonParsesCard : Claim7 := { stood := { row := jsonParsesRow, standIns := [], harness := (true, "f1cd275ec1b5a2cbda756de668496f7e525deebd61c4fc71412de95ed70ddd18"), looks := false }, kinds := [], alts := [], laidByText := true, laidKinds := [.data, .pinned], laidTests := true, laidLooks := .later }
def JsonParsesCardSaid : Prop := Claim7.holds Tryd.pinned (.plain (OpenSpec.ofChange jsonParsesSpec)) jsonParsesCard

/-- THE TIED CARD OF 'scarflaw05.JsonPaths'. -/
def jsonPathsCard : Claim7 := { stood := { row := jsonPathsRow, standIns := [], harness := (true, "f1cd275ec1b5a2cbda756de668496f7e525deebd61c4fc71412de95ed70ddd18"), looks := false }, kinds := [], alts := [], laidByText := true, laidKinds := [.data, .pinned], laidTests := true, laidLooks := .later }
def JsonPathsCardSaid : Prop := Claim7.holds Tryd.pinned (.plain (OpenSpec.ofChange jsonPathsSpec)) jsonPathsCard

/-- THE TIED CARD OF 'scarflaw05.JsonWhole'. -/
def jsonWholeCard : Claim7 := { stood := { row := jsonWholeRow, standIns := [], harness := (true, "f1cd275ec1b5a2cbda756de668496f7e525deebd61c4fc71412de95ed70ddd18"), looks := false }, kinds := [], alts := [], laidByText := true, laidKinds := [.data, .pinned], laidTests := true, laidLooks := .later }
def JsonWholeCardSaid : Prop := Claim7.holds Tryd.pinned (.plain (OpenSpec.ofChange jsonWholeSpec)) jsonWholeCard

/-- THE TIED CARD OF 'scarflaw05.JsonAlone'. -/
def jsonAloneCard : Claim7 := { stood := { row := jsonAloneRow, standIns := [], harness := (true, "f1cd275ec1b5a2cbda756de668496f7e525deebd61c4fc71412de95ed70ddd18"), looks := false }, kinds := [], alts := [], laidByText := true, laidKinds := [.data, .pinned], laidTests := true, laidLooks := .later }
def JsonAloneCardSaid : Prop := Claim7.holds Tryd.pinned (.plain (OpenSpec.ofChange jsonAloneSpec)) jsonAloneCard

/-- THE TIED CARD OF 'scarflaw05.JsonSpaces'. -/
def jsonSpacesCard : Claim7 := { stood := { row := jsonSpacesRow, standIns := [], harness := (true, "f1cd275ec1b5a2cbda756de668496f7e525deebd61c4fc71412de95ed70ddd18"), looks := false }, kinds := [], alts := [], laidByText := true, laidKinds := [.data, .pinned], laidTests := true, laidLooks := .later }
def JsonSpacesCardSaid : Prop := Claim7.holds Tryd.pinned (.plain (OpenSpec.ofChange jsonSpacesSpec)) jsonSpacesCard

/-- THE TIED CARD OF 'scarflaw05.JsonNests'. -/
def jsonNestsCard : Claim7 := { stood := { row := jsonNestsRow, standIns := [], harness := (true, "f1cd275ec1b5a2cbda756de668496f7e525deebd61c4fc71412de95ed70ddd18"), looks := false }, kinds := [], alts := [], laidByText := true, laidKinds := [.data, .pinned], laidTests := true, laidLooks := .later }
def JsonNestsCardSaid : Prop := Claim7.holds Tryd.pinned (.plain (OpenSpec.ofChange jsonNestsSpec)) jsonNestsCard

/-- THE SECOND FORM's CARD OF 'scarflaw05.JsonParses'. -/
def jsonParsesUptoCard : Claim7 := { stood := { row := jsonParsesUptoRow, standIns := [], harness := (true, "f1cd275ec1b5a2cbda756de668496f7e525deebd61c4fc71412de95ed70ddd18"), looks := false }, kinds := [], alts := [], laidByText := true, laidKinds := [.data, .pinned], laidTests := true, laidLooks := .later }
def JsonParsesUptoCardSaid : Prop := Claim7.holds Tryd.pinned (.plain (OpenSpec.upto jsonParsesSpec)) jsonParsesUptoCard

/-- THE SECOND FORM's CARD OF 'scarflaw05.JsonPaths'. -/
def jsonPathsUptoCard : Claim7 := { stood := { row := jsonPathsUptoRow, standIns := [], harness := (true, "f1cd275ec1b5a2cbda756de668496f7e525deebd61c4fc71412de95ed70ddd18"), looks := false }, kinds := [], alts := [], laidByText := true, laidKinds := [.data, .pinned], laidTests := true, laidLooks := .later }
def JsonPathsUptoCardSaid : Prop := Claim7.holds Tryd.pinned (.plain (OpenSpec.upto jsonPathsSpec)) jsonPathsUptoCard

/-- THE SECOND FORM's CARD OF 'scarflaw05.JsonWhole'. -/
def jsonWholeUptoCard : Claim7 := { stood := { row := jsonWholeUptoRow, standIns := [], harness := (true, "f1cd275ec1b5a2cbda756de668496f7e525deebd61c4fc71412de95ed70ddd18"), looks := false }, kinds := [], alts := [], laidByText := true, laidKinds := [.data, .pinned], laidTests := true, laidLooks := .later }
def JsonWholeUptoCardSaid : Prop := Claim7.holds Tryd.pinned (.plain (OpenSpec.upto jsonWholeSpec)) jsonWholeUptoCard

/-- THE SECOND FORM's CARD OF 'scarflaw05.JsonAlone'. -/
def jsonAloneUptoCard : Claim7 := { stood := { row := jsonAloneUptoRow, standIns := [], harness := (true, "f1cd275ec1b5a2cbda756de668496f7e525deebd61c4fc71412de95ed70ddd18"), looks := false }, kinds := [], alts := [], laidByText := true, laidKinds := [.data, .pinned], laidTests := true, laidLooks := .later }
def JsonAloneUptoCardSaid : Prop := Claim7.holds Tryd.pinned (.plain (OpenSpec.upto jsonAloneSpec)) jsonAloneUptoCard

/-- THE SECOND FORM's CARD OF 'scarflaw05.JsonSpaces'. -/
def jsonSpacesUptoCard : Claim7 := { stood := { row := jsonSpacesUptoRow, standIns := [], harness := (true, "f1cd275ec1b5a2cbda756de668496f7e525deebd61c4fc71412de95ed70ddd18"), looks := false }, kinds := [], alts := [], laidByText := true, laidKinds := [.data, .pinned], laidTests := true, laidLooks := .later }
def JsonSpacesUptoCardSaid : Prop := Claim7.holds Tryd.pinned (.plain (OpenSpec.upto jsonSpacesSpec)) jsonSpacesUptoCard

/-- THE SECOND FORM's CARD OF 'scarflaw05.JsonNests'. -/
def jsonNestsUptoCard : Claim7 := { stood := { row := jsonNestsUptoRow, standIns := [], harness := (true, "f1cd275ec1b5a2cbda756de668496f7e525deebd61c4fc71412de95ed70ddd18"), looks := false }, kinds := [], alts := [], laidByText := true, laidKinds := [.data, .pinned], laidTests := true, laidLooks := .later }
def JsonNestsUptoCardSaid : Prop := Claim7.holds Tryd.pinned (.plain (OpenSpec.upto jsonNestsSpec)) jsonNestsUptoCard
end Rows
end Go.Proofs.YtleabaldjlbnlaaDoor
