/-
  WHAT EACH LAW OF LAYER 6 TAKES OF small.
-/
import Derived.Test.YtfibmmmbpfnccaaGreatDoorVuM
import Derived.Test.YtfibmmmbpfnccaaGreatDoorVuL
namespace Go.Proofs.YtfibmmmbpfnccaaGreatDoor
open Go.RowKit

theorem smallAt {w : World} (hE : Env w) : SmallAt w := fun V hV => smallV_any V (hE.grow hV)
theorem orders_law (x y z : Vt) (w : World) (hE : Env w) (hx : x.Ok w) (hy : y.Ok w) (hz : z.Ok w) :
    Calls Tryz.prog 5 #[x.v, y.v, z.v] w (BPost true w) := orders_any x y z w hE (smallAt hE) hx hy hz
end Go.Proofs.YtfibmmmbpfnccaaGreatDoor
