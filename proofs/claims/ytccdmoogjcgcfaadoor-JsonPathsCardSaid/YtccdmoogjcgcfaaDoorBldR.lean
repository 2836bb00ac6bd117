/-
  A BUILDER: WriteRune.
-/
import Derived.Test.YtccdmoogjcgcfaaDoorBldM
namespace Go.Proofs.YtccdmoogjcgcfaaDoor
open Go.RowKit

theorem wrune (B b : Nat) (l t : Bs) (r : Int) (w : World) (hr0 : -2147483648 ≤ r) (hr1 : r ≤ 2147483647) (ht : Lib.runeCells r = Lib.byteCells t) (h : Bld B b l w) (hl : l.length + 4 ≤ 140737488355328) (hB : B ≤ w.heap.size) :
    Calls Tryd.prog 71 #[.pointer (some ⟨b, 0, none⟩), .int .i32 r] w fun e w' => (∃ n, e = .returned (.tuple #[.int .i64 n, .nilIface])) ∧ Wrote B b (l ++ t) w w' := by
  refine (Tryd.Builder_WriteRune_k B b (Lib.byteCells l) r hr0 hr1 w h (by rw [Lib.byteCells_length]; exact hl) hB).mono ?_
  rintro e w' ⟨rfl, h1, h2, h3⟩
  refine ⟨⟨_, rfl⟩, .inr ?_, h2, h3⟩
  rw [byteCells_app, ← ht]
  exact h1

end Go.Proofs.YtccdmoogjcgcfaaDoor
