/-
  A BUILDER: WriteByte.
-/
import Derived.Test.YtccdmoogjcgcfaaDoorBldM
namespace Go.Proofs.YtccdmoogjcgcfaaDoor
open Go.RowKit

end Go.Proofs.YtccdmoogjcgcfaaDoor
