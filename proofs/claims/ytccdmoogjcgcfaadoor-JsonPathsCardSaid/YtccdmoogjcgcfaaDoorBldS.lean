/-
  A BUILDER: WriteString.
-/
import Derived.Test.YtccdmoogjcgcfaaDoorBldM
namespace Go.Proofs.YtccdmoogjcgcfaaDoor
open Go.RowKit

end Go.Proofs.YtccdmoogjcgcfaaDoor
