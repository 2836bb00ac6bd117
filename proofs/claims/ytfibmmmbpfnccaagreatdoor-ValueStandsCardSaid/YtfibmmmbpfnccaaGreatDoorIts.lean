/-
  THE PREMISE ON strconv.Itoa, of any int.
-/
import Derived.Test.YtfibmmmbpfnccaaGreatDoorItoas
import Derived.Test.YtfibmmmbpfnccaaGreatDoorMem
namespace Go.Proofs.YtfibmmmbpfnccaaGreatDoor
open Go.RowKit

/-- strconv.Itoa answers, of any int, from a world on -/
def Its (w : World) : Prop := ∀ E : Int, -9223372036854775808 ≤ E → E ≤ 9223372036854775807 → Itoas E w
theorem Its.grow {w w' : World} (h : Its w) (hb : Below w.heap.size w w') : Its w' := fun E h0 h1 W hW => h E h0 h1 W (below_trans hb hW)
end Go.Proofs.YtfibmmmbpfnccaaGreatDoor
