/-
  PLAIN MATHEMATICS: what Valid answers.
-/
import Derived.Test.YtfibmmmbpfnccaaGreatDoorRunesNext
namespace Go.Proofs.YtfibmmmbpfnccaaGreatDoor
open Go.RowKit

/-- does a rune that is none stand at p? -/
def bad (s : ByteArray) (p : Nat) : Prop := (Utf8.decode s p).1 = 65533 ∧ (Utf8.decode s p).2 = 1
instance (s : ByteArray) (p : Nat) : Decidable (bad s p) := by unfold bad; infer_instance
/-- what Valid answers, from p on -/
def vld (s : ByteArray) : Nat → Nat → Nat × Bool
  | 0, _ => (s.size, true)
  | f + 1, p => if p < s.size then (if bad s p then (p, false) else vld s f (p + wd s p)) else (s.size, true)
def valid (s : ByteArray) : Nat × Bool := vld s s.size 0
theorem vld_end (s : ByteArray) (f p : Nat) (h : ¬ p < s.size) : vld s f p = (s.size, true) := by
  cases f with
  | zero => rfl
  | succ f => unfold vld; rw [if_neg h]

theorem tabs_below {w w' : World} {B : Nat} (h : tabs w) (hb : Below B w w') (h1 : 3 < B) (h2 : 4 < B) : tabs w' :=
  ⟨fun c hc => by rw [hb.cell (p := ⟨3, c, none⟩) h1]; exact h.1 c hc,
   fun i hi => ⟨by rw [hb.cell (p := ⟨4, 2 * i, none⟩) h2]; exact (h.2 i hi).1, by rw [hb.cell (p := ⟨4, 2 * i + 1, none⟩) h2]; exact (h.2 i hi).2⟩⟩
theorem tabs_size {w : World} (h : tabs w) : 3 < w.heap.size ∧ 4 < w.heap.size :=
  ⟨Go.block_lt_of_cell (h.1 0 (by omega)), Go.block_lt_of_cell (h.2 0 (by omega)).1⟩
theorem tabs_grow {w w' : World} (h : tabs w) (hb : Below w.heap.size w w') : tabs w' := tabs_below h hb (tabs_size h).1 (tabs_size h).2


end Go.Proofs.YtfibmmmbpfnccaaGreatDoor
