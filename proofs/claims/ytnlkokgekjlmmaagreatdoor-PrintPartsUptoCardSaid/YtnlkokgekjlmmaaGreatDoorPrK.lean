/-
  PLAIN MATHEMATICS: a sorted value's text is as long as the value's own.
-/
import Derived.Test.YtnlkokgekjlmmaaGreatDoorPrF
namespace Go.Proofs.YtnlkokgekjlmmaaGreatDoor
open Go.RowKit

end Go.Proofs.YtnlkokgekjlmmaaGreatDoor
