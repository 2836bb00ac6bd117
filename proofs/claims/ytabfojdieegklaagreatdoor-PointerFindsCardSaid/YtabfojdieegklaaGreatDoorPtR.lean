/-
  MATHEMATICS: paths as texts and back.
-/
import Derived.Test.YtabfojdieegklaaGreatDoorPtp
import Derived.Test.YtabfojdieegklaaGreatDoorUnqD
namespace Go.Proofs.YtabfojdieegklaaGreatDoor
open Go.RowKit
def pescR (r : Nat) : List Nat := if r = 126 then [126, 48] else if r = 47 then [126, 49] else [r]
end Go.Proofs.YtabfojdieegklaaGreatDoor
