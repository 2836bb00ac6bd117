/-
  WALK: the law PrintParts.
-/
import Derived.Test.YtnlkokgekjlmmaaGreatDoorPrP
import Derived.Test.YtnlkokgekjlmmaaGreatDoorPrS
namespace Go.Proofs.YtnlkokgekjlmmaaGreatDoor
open Go.RowKit

theorem pparts_any (x : Vt) (w : World) (hE : Env w) (hok : x.Ok w) (hb : x.m.blk ≤ 1048576) : Calls Tryz.prog 6 #[x.v] w (BPost true w) :=
  pparts_law x w hE hok hb (fun V hV => smallPr_any V (hE.grow hV))

end Go.Proofs.YtnlkokgekjlmmaaGreatDoor
