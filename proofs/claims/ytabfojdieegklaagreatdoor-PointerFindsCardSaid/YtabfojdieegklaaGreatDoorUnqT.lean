/-
  WALKS: quote.scan, as Unquote calls it: what each part stands for is written into a builder.
-/
import Derived.Test.YtabfojdieegklaaGreatDoorUnqS
import Derived.Test.YtabfojdieegklaaGreatDoorQuoteW
import Derived.Test.YtabfojdieegklaaGreatDoorUnqC
namespace Go.Proofs.YtabfojdieegklaaGreatDoor
open Go.RowKit

def ScanPostB (B b : Nat) (r : Nat × Int × List Nat) (w : World) (e : Ending) (w' : World) : Prop := e = .returned (.tuple #[.int .i64 (r.1 : Int), .int .i64 r.2.1]) ∧ Bld B b (encAll r.2.2) w' ∧ Below B w w'

end Go.Proofs.YtabfojdieegklaaGreatDoor
