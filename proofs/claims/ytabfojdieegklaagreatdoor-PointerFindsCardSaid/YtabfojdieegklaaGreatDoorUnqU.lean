/-
  WALKS: quote.unicode.
-/
import Derived.Test.YtabfojdieegklaaGreatDoorUnqW
namespace Go.Proofs.YtabfojdieegklaaGreatDoor
open Go.RowKit

def UniPost (o : Option Nat) (w : World) (e : Ending) (w' : World) : Prop := e = .returned (.tuple #[.int .i32 ((o.getD 0 : Nat) : Int), .bool o.isSome]) ∧ Below w.heap.size w w'
theorem byt_sub (t : ByteArray) (a b j : Nat) (hb : b ≤ t.size) (hj : a + j < b) : byt (t.extract a b) j = byt t (a + j) := by
  have h1 : j < (t.extract a b).size := by rw [ByteArray.size_extract]; omega
  rw [byt_eq _ j h1, byt_eq t (a + j) (by omega)]
  congr 1
  simp [ByteArray.getElem_extract]
theorem hexv_dec (u : ByteArray) (p : Nat) : hexv (Utf8.decode u p).1 = hexv (byt u p) ∧ (∀ x, hexv (Utf8.decode u p).1 = some x → (Utf8.decode u p).2 = 1) := by
  by_cases h : byt u p < 128
  · rw [dec_low u p h]
    exact ⟨rfl, fun _ _ => rfl⟩
  · have h1 := dec_high u p (by omega)
    have n1 : hexv (Utf8.decode u p).1 = none := by
      cases hx : hexv (Utf8.decode u p).1 with
      | none => rfl
      | some x => have := (hexv_lt hx).2; omega
    have n2 : hexv (byt u p) = none := by
      cases hx : hexv (byt u p) with
      | none => rfl
      | some x => have := (hexv_lt hx).2; omega
    rw [n1, n2]
    exact ⟨rfl, fun x hx => by cases hx⟩

end Go.Proofs.YtabfojdieegklaaGreatDoor
