/-
  WALK: the law PrintCanons, over its small case.
-/
import Derived.Test.YtnlkokgekjlmmaaGreatDoorPrK
import Derived.Test.YtnlkokgekjlmmaaGreatDoorVuL
namespace Go.Proofs.YtnlkokgekjlmmaaGreatDoor
open Go.RowKit

end Go.Proofs.YtnlkokgekjlmmaaGreatDoor
