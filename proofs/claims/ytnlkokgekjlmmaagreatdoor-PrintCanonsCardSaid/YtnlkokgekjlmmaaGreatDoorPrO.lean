/-
  WALK: the law PrintCanons.
-/
import Derived.Test.YtnlkokgekjlmmaaGreatDoorPrN
import Derived.Test.YtnlkokgekjlmmaaGreatDoorPrS
namespace Go.Proofs.YtnlkokgekjlmmaaGreatDoor
open Go.RowKit

theorem pcanons_any (x : Vt) (w : World) (hE : Env w) (hok : x.Ok w) : Calls Tryz.prog 7 #[x.v] w (BPost true w) :=
  pcanons_law x w hE hok (smallPr_any _ (hE.grow (below_alloc _ _)))

end Go.Proofs.YtnlkokgekjlmmaaGreatDoor
