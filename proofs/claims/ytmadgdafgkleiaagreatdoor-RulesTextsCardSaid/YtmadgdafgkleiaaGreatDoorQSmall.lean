/-
  WALK: the small cases of layer 3.
-/
import Derived.Test.YtmadgdafgkleiaaGreatDoorUnv
import Derived.Test.YtmadgdafgkleiaaGreatDoorQuoteQ
namespace Go.Proofs.YtmadgdafgkleiaaGreatDoor
open Go.RowKit
def QuotePost (q : Bs × Int) (w : World) (e : Ending) (w' : World) : Prop := e = .returned (.tuple #[.string (st q.1), .int .i64 q.2]) ∧ Below w.heap.size w w'
end Go.Proofs.YtmadgdafgkleiaaGreatDoor

