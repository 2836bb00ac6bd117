/-
  strconv.Itoa, as a premise on a world.
-/
import Derived.Test.YtfibmmmbpfnccaaGreatDoorNumMath
import Derived.Test.YtfibmmmbpfnccaaGreatDoorMem
import Derived.Test.YtfibmmmbpfnccaaGreatDoorShelf
import Derived.Lib.ItoaLen
namespace Go.Proofs.YtfibmmmbpfnccaaGreatDoor
open Go.RowKit

def Itoas (E : Int) (w : World) : Prop := ∀ W, Below w.heap.size w W → Calls Tryz.prog 102 #[.int .i64 E] W fun e w' => e = .returned (.string (st (Lib.itoa E))) ∧ Below W.heap.size W w'
theorem Itoas.grow {E : Int} {w W : World} (h : Itoas E w) (hb : Below w.heap.size w W) : Itoas E W := fun W' hW => h W' (below_trans hb hW)
end Go.Proofs.YtfibmmmbpfnccaaGreatDoor
