/-
  A row that came in at no address has no room.
-/
import Derived.Test.YtabfojdieegklaaGreatDoorBas
import Derived.Deep.Slices
namespace Go.Proofs.YtabfojdieegklaaGreatDoor
open Go.ChangeShapes Go.WideShapes Go.ChangeAt Go.RowKit Go.Deep
section
variable {H : Type} {enc : TypeId × Value → H} {P : Program} {w : World} {base : Nat} {spare : Nat → Bool} {held : Bool}
theorem none_capR {tL tE : TypeId} {o : Option Addr} {n cap : Nat} {d : DataW H} {p : List MemPlace} (hL : P.underlying tL = some (.slice tE)) (h : DataW.Trod enc P w base spare held tL (.slice o n cap) d p) : o = none → cap = 0 := by
  rintro rfl
  obtain ⟨fuel, hf⟩ := h
  rcases open_slice hL hf with ⟨hcs, _⟩ | ⟨a, len', cap', m, n, D, Pl, hcs, _⟩
  · simp [Value.cells] at hcs
    exact hcs.2
  · simp [Value.cells] at hcs
end
end Go.Proofs.YtabfojdieegklaaGreatDoor
