/-
  WALK: the law ValueOrders, over what small answers.
-/
import Derived.Test.YtnlkokgekjlmmaaGreatDoorVtUB
namespace Go.Proofs.YtnlkokgekjlmmaaGreatDoor
open Go.RowKit

end Go.Proofs.YtnlkokgekjlmmaaGreatDoor
