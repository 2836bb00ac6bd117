/-
  WALKS: number.digits, the parts of a literal.
-/
import Derived.Test.YtekihjffefokjaaDoorChecked
import Derived.Test.YtekihjffefokjaaDoorShelf
import Derived.Test.YtekihjffefokjaaDoorMem
import Derived.Test.YtekihjffefokjaaDoorNumMath
namespace Go.Proofs.YtekihjffefokjaaDoor
open Go.RowKit

theorem isDig_byt (s : ByteArray) (j : Nat) (h : j < s.data.toList.length) : isDig s.data.toList[j] = (decide (48 ≤ byt s j) && decide (byt s j ≤ 57)) := by
  unfold isDig
  rw [byt_eq s j h]
  rfl

end Go.Proofs.YtekihjffefokjaaDoor
