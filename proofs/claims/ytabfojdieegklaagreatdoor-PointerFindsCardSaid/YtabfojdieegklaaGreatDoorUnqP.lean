/-
  WALK: quote.escape at a pair of escapes that stand for one rune.
-/
import Derived.Test.YtabfojdieegklaaGreatDoorUnqU
namespace Go.Proofs.YtabfojdieegklaaGreatDoor
open Go.RowKit

end Go.Proofs.YtabfojdieegklaaGreatDoor
