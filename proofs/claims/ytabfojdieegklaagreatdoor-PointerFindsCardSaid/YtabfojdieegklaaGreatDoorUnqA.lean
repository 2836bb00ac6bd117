/-
  WALKS: quote.part.
-/
import Derived.Test.YtabfojdieegklaaGreatDoorUnqE
import Derived.Test.YtabfojdieegklaaGreatDoorRefV
namespace Go.Proofs.YtabfojdieegklaaGreatDoor
open Go.RowKit

end Go.Proofs.YtabfojdieegklaaGreatDoor
