/-
  WALK: the law PointerOrders.
-/
import Derived.Test.YtabfojdieegklaaGreatDoorPx2
namespace Go.Proofs.YtabfojdieegklaaGreatDoor
open Go.RowKit

theorem byte_bd (x y : UInt8) : -1 ≤ (if x < y then -1 else if y < x then (1 : Int) else 0) ∧ (if x < y then -1 else if y < x then (1 : Int) else 0) ≤ 1 := by
  by_cases h : x < y
  · rw [if_pos h]; omega
  · rw [if_neg h]
    by_cases h2 : y < x
    · rw [if_pos h2]; omega
    · rw [if_neg h2]; omega
theorem cmpB_bd (a b : Bs) : -1 ≤ cmpB a b ∧ cmpB a b ≤ 1 := by
  rw [cmpB_lex]
  exact lexM_bd a b (fun x _ y => byte_bd x y)
end Go.Proofs.YtabfojdieegklaaGreatDoor
