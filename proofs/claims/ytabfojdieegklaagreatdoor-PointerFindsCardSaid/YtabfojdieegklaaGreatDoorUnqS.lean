/-
  WALKS: quote.scan, as End calls it.
-/
import Derived.Test.YtabfojdieegklaaGreatDoorUnqA
import Derived.Test.YtabfojdieegklaaGreatDoorUnqB
namespace Go.Proofs.YtabfojdieegklaaGreatDoor
open Go.RowKit

def ScanPost (r : Nat × Int) (w : World) (e : Ending) (w' : World) : Prop := e = .returned (.tuple #[.int .i64 (r.1 : Int), .int .i64 r.2]) ∧ Below w.heap.size w w'
/-- where the scan ends, whatever has been read before -/
def scanEnd (s : ByteArray) (f p : Nat) : Nat × Int := ((scanGo s f p []).1, (scanGo s f p []).2.1)
theorem scanGo_acc (s : ByteArray) : ∀ (f p : Nat) (acc : List Nat), (scanGo s f p acc).1 = (scanGo s f p []).1 ∧ (scanGo s f p acc).2.1 = (scanGo s f p []).2.1 ∧ (scanGo s f p acc).2.2 = acc ++ (scanGo s f p []).2.2
  | 0, p, acc => ⟨rfl, rfl, by simp [scanGo]⟩
  | f + 1, p, acc => by
    unfold scanGo
    by_cases h : p < s.size
    · rw [if_pos h, if_pos h]
      by_cases h34 : byt s p = 34
      · rw [if_pos h34, if_pos h34]; exact ⟨rfl, rfl, by simp⟩
      · rw [if_neg h34, if_neg h34]
        cases partM s p with
        | none => exact ⟨rfl, rfl, by simp⟩
        | some x =>
          obtain ⟨a1, a2, a3⟩ := scanGo_acc s f (p + x.2) (acc ++ [x.1])
          obtain ⟨b1, b2, b3⟩ := scanGo_acc s f (p + x.2) ([] ++ [x.1])
          simp only
          exact ⟨a1.trans b1.symm, a2.trans b2.symm, by rw [a3, b3]; simp⟩
    · rw [if_neg h, if_neg h]; exact ⟨rfl, rfl, by simp⟩

end Go.Proofs.YtabfojdieegklaaGreatDoor
