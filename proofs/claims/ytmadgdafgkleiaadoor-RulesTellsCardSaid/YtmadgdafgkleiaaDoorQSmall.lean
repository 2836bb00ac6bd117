/-
  WALK: the small cases of layer 3.
-/
import Derived.Test.YtmadgdafgkleiaaDoorUnv
import Derived.Test.YtmadgdafgkleiaaDoorQuoteQ
namespace Go.Proofs.YtmadgdafgkleiaaDoor
open Go.RowKit
def QuotePost (q : Bs × Int) (w : World) (e : Ending) (w' : World) : Prop := e = .returned (.tuple #[.string (st q.1), .int .i64 q.2]) ∧ Below w.heap.size w w'
end Go.Proofs.YtmadgdafgkleiaaDoor

