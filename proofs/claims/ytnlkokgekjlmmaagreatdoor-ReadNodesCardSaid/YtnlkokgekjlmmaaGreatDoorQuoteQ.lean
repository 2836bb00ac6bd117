/-
  WALKS: quote.Quote.
-/
import Derived.Test.YtnlkokgekjlmmaaGreatDoorQuoteW
import Derived.Test.YtnlkokgekjlmmaaGreatDoorRun
namespace Go.Proofs.YtnlkokgekjlmmaaGreatDoor
open Go.RowKit
def partAt (s : ByteArray) (p : Nat) : Bs := if byt s p < 128 then qb (UInt8.ofNat (byt s p)) else runeAt s p
end Go.Proofs.YtnlkokgekjlmmaaGreatDoor
