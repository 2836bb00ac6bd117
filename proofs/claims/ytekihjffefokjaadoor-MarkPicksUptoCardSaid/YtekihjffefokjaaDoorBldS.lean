/-
  A BUILDER: WriteString.
-/
import Derived.Test.YtekihjffefokjaaDoorBldM
namespace Go.Proofs.YtekihjffefokjaaDoor
open Go.RowKit

theorem wstring (B b : Nat) (l t : Bs) (w : World) (h : Bld B b l w) (hl : l.length + t.length ≤ 140737488355328) (hB : B ≤ w.heap.size) :
    Calls Tryd.prog 53 #[.pointer (some ⟨b, 0, none⟩), .string (st t)] w fun e w' => (∃ n, e = .returned (.tuple #[.int .i64 n, .nilIface])) ∧ Wrote B b (l ++ t) w w' := by
  refine (Tryd.Builder_WriteString_k B b (Lib.byteCells l) (st t) w h (by rw [Lib.byteCells_length, st_size]; exact hl) hB).mono ?_
  rintro e w' ⟨rfl, h1, h2, h3⟩
  refine ⟨⟨_, rfl⟩, .inr ?_, h2, h3⟩
  rw [byteCells_app]
  exact h1
end Go.Proofs.YtekihjffefokjaaDoor
