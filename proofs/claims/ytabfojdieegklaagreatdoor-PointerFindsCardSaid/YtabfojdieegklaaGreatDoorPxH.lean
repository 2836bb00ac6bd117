/-
  WALK: the law PointerBack.
-/
import Derived.Test.YtabfojdieegklaaGreatDoorPx2
import Derived.Test.YtabfojdieegklaaGreatDoorPtR
namespace Go.Proofs.YtabfojdieegklaaGreatDoor
open Go.RowKit

end Go.Proofs.YtabfojdieegklaaGreatDoor
