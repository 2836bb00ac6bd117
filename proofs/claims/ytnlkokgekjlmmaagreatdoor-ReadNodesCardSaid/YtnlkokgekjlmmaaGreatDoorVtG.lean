/-
  A TREE AS AN ARGUMENT: read.
-/
import Derived.Test.YtnlkokgekjlmmaaGreatDoorBas
import Derived.Deep.Slices
import Derived.Deep.Strs
import Derived.ChangeArms
import Derived.OpenShut
namespace Go.Proofs.YtnlkokgekjlmmaaGreatDoor
open Go.ChangeShapes Go.WideShapes Go.ChangeAt Go.RowKit Go.Deep
section
variable {H : Type} {enc : TypeId × Value → H} {P : Program} {w : World} {base : Nat} {spare : Nat → Bool} {held : Bool}
end
end Go.Proofs.YtnlkokgekjlmmaaGreatDoor
