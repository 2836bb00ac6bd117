/-
  WALKS: quote.write, quote.Quote.
-/
import Derived.Test.YtnlkokgekjlmmaaGreatDoorRun
import Derived.Laws.Bits64b
namespace Go.Proofs.YtnlkokgekjlmmaaGreatDoor
open Go.RowKit
def escOf (c : Int) : Option UInt8 :=
 if c = 34 then some 34 else if c = 92 then some 92 else if c = 8 then some 98 else if c = 12 then some 102 else if c = 10 then some 110 else if c = 13 then some 114 else if c = 9 then some 116 else none
def HexIs (c : Int) (x y : UInt8) : Prop := c = 0 ∧ x = 48 ∧ y = 48 ∨ c = 1 ∧ x = 48 ∧ y = 49 ∨ c = 2 ∧ x = 48 ∧ y = 50 ∨ c = 3 ∧ x = 48 ∧ y = 51 ∨ c = 4 ∧ x = 48 ∧ y = 52 ∨ c = 5 ∧ x = 48 ∧ y = 53 ∨ c = 6 ∧ x = 48 ∧ y = 54 ∨ c = 7 ∧ x = 48 ∧ y = 55 ∨ c = 11 ∧ x = 48 ∧ y = 98 ∨ c = 14 ∧ x = 48 ∧ y = 101 ∨ c = 15 ∧ x = 48 ∧ y = 102 ∨ c = 16 ∧ x = 49 ∧ y = 48 ∨ c = 17 ∧ x = 49 ∧ y = 49 ∨ c = 18 ∧ x = 49 ∧ y = 50 ∨ c = 19 ∧ x = 49 ∧ y = 51 ∨ c = 20 ∧ x = 49 ∧ y = 52 ∨ c = 21 ∧ x = 49 ∧ y = 53 ∨ c = 22 ∧ x = 49 ∧ y = 54 ∨ c = 23 ∧ x = 49 ∧ y = 55 ∨ c = 24 ∧ x = 49 ∧ y = 56 ∨ c = 25 ∧ x = 49 ∧ y = 57 ∨ c = 26 ∧ x = 49 ∧ y = 97 ∨ c = 27 ∧ x = 49 ∧ y = 98 ∨ c = 28 ∧ x = 49 ∧ y = 99 ∨ c = 29 ∧ x = 49 ∧ y = 100 ∨ c = 30 ∧ x = 49 ∧ y = 101 ∨ c = 31 ∧ x = 49 ∧ y = 102
end Go.Proofs.YtnlkokgekjlmmaaGreatDoor
