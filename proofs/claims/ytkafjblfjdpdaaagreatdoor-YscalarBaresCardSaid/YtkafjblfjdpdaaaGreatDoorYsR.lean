/-
  WALK: the law YscalarBares.
-/
import Derived.Test.YtkafjblfjdpdaaaGreatDoorYsRa
import Derived.Test.YtkafjblfjdpdaaaGreatDoorYsRb
namespace Go.Proofs.YtkafjblfjdpdaaaGreatDoor
open Go.RowKit
theorem ybares_law(s:ByteArray)(w:World)(hE:Env w)(hm:mx w)(_hs:s.size≤maxLen):Calls Tryz.prog 7 #[.string s] w (BPost true w):=by
 cases h:bareL s.data.toList with
 |true=>exact ybares_lawT s w hE hm _hs h
 |false=>exact ybares_lawF s w hE hm _hs h
end Go.Proofs.YtkafjblfjdpdaaaGreatDoor
