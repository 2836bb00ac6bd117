/-
  DERIVED. GIVEN WITH THE SEED: THE CARDS: each row of YtmadgdafgkleiaaDoorRows.lean that lists a variable, with what it lists TIED to the program's text (the seventh form; the later family's looks); each row that meets fmt, with fmt's text TOLD by the authors' own Lean function (tested against real Go, not proved from fmt's source: count such statements apart). THE CARD IS WHAT COUNTS. Prove the row's statement (the work); the ties are given (YtmadgdafgkleiaaDoorTie.lean); close each card by the builder's one call (the guide's Derived/Test/ToyasCard.lean, 'card_holds'). Laid BY PROGRAM, IN A SANDBOX (cutbox-door.mjs). By AI agents, Wed Nov 11 2026. No macro, syntax, notation, axiom, sorry.
-/
import Derived.Test.YtmadgdafgkleiaaDoorRows
import GoSem.ClaimSeven
namespace Go.Proofs.YtmadgdafgkleiaaDoor
namespace Rows

/-- THE TIED CARD OF 'scarflaw18.RulesTells'. -/
def rulesTellsCard : Claim7 := { stood := { row := rulesTellsRow, standIns := [], harness := (true, "b6f042eac31bb6a8912df5609a35eeaa63e757735bd24f1400e037349622e544"), looks := false }, kinds := [], alts := [], laidByText := true, laidKinds := [.data, .pinned], laidTests := true, laidLooks := .later }
def RulesTellsCardSaid : Prop := Claim7.holds Tryd.pinned (.plain (OpenSpec.ofChange rulesTellsSpec)) rulesTellsCard

/-- THE SECOND FORM's CARD OF 'scarflaw18.RulesTells'. -/
def rulesTellsUptoCard : Claim7 := { stood := { row := rulesTellsUptoRow, standIns := [], harness := (true, "b6f042eac31bb6a8912df5609a35eeaa63e757735bd24f1400e037349622e544"), looks := false }, kinds := [], alts := [], laidByText := true, laidKinds := [.data, .pinned], laidTests := true, laidLooks := .later }
def RulesTellsUptoCardSaid : Prop := Claim7.holds Tryd.pinned (.plain (OpenSpec.upto rulesTellsSpec)) rulesTellsUptoCard
end Rows
end Go.Proofs.YtmadgdafgkleiaaDoor
