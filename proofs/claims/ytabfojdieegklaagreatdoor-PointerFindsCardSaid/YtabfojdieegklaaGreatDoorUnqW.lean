/-
  WALKS: quote.digit, quote.unicode.
-/
import Derived.Test.YtabfojdieegklaaGreatDoorUnqM
import Derived.Test.YtabfojdieegklaaGreatDoorBas
import Derived.Deep.DeepCutAuto
import Derived.Laws.Bits64b
namespace Go.Proofs.YtabfojdieegklaaGreatDoor
open Go.RowKit

def DigPost (o : Option Nat) (w : World) (e : Ending) (w' : World) : Prop := e = .returned (.tuple #[.int .i32 ((o.getD 0 : Nat) : Int), .bool o.isSome]) ∧ w = w'
def hexAcc (t : ByteArray) : Nat → Option Nat
  | 0 => some 0
  | k + 1 => match hexAcc t k with
    | none => none
    | some a => match hexv (byt t (2 + k)) with
      | none => none
      | some x => some (a * 16 + x)
theorem hexAcc_four (t : ByteArray) : hexAcc t 4 = hex4 (byt t 2) (byt t 3) (byt t 4) (byt t 5) := by
  unfold hex4
  simp only [hexAcc, Nat.add_zero, Nat.reduceAdd]
  cases hexv (byt t 2) with
  | none => rfl
  | some a =>
    cases hexv (byt t 3) with
    | none => rfl
    | some b =>
      cases hexv (byt t 4) with
      | none => rfl
      | some c =>
        cases hexv (byt t 5) with
        | none => rfl
        | some d => simp
theorem hexAcc_lt (t : ByteArray) : ∀ k a, hexAcc t k = some a → a < 16 ^ k
  | 0, a, h => by injection h with h; omega
  | k + 1, a, h => by
    unfold hexAcc at h
    split at h
    · cases h
    · rename_i b hb
      have ih := hexAcc_lt t k b hb
      split at h
      · cases h
      · rename_i x hx
        have := (hexv_lt hx).1
        injection h with h
        rw [Nat.pow_succ]; omega
theorem hexAcc_none (t : ByteArray) : ∀ k j, hexAcc t k = none → hexAcc t (k + j) = none
  | k, 0, h => h
  | k, j + 1, h => by
    have ih := hexAcc_none t k j h
    rw [← Nat.add_assoc, hexAcc, ih]
end Go.Proofs.YtabfojdieegklaaGreatDoor
