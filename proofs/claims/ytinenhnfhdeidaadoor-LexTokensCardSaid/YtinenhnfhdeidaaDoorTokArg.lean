/-
  A TOKEN AS AN ARGUMENT: read, and written back.
-/
import Derived.Test.YtinenhnfhdeidaaDoorRunesFrame
import Derived.Lib.SmallJoins
import Derived.ChangeSame
namespace Go.Proofs.YtinenhnfhdeidaaDoor
open Go.ChangeShapes Go.WideShapes Go.ChangeAt Go.RowKit

section
variable {H : Type} {enc : TypeId × Value → H} {w : World} {base : Nat} {spare : Nat → Bool} {held : Bool}
set_option maxRecDepth 100000 in
theorem open_tok {r : Reach} {b0 : Nat} {v : Value} {d : DataW H} {p : List MemPlace} (hv : Value.okWide Tryd.prog w r b0 25 v) (h : DataW.Trod enc Tryd.prog w base spare held 25 v d p) :
    ∃ k a b : Int, v = .agg #[.int .i64 k, .int .i64 a, .int .i64 b] ∧ d = .agg [.lit (.int .i64 k), .agg [.lit (.int .i64 a), .lit (.int .i64 b)]] ∧ p = [] ∧ (Lit.int .i64 k).wf = true ∧ (Lit.int .i64 a).wf = true ∧ (Lit.int .i64 b).wf = true := by
  obtain ⟨cs, rfl, hsz⟩ := okWide_struct Tryd.underlying25 hv
  have hC : Tryd.prog.cellsOf 25 = 3 := by kernel_rfl
  have hC1 : Tryd.prog.cellsOf 3 = 1 := by kernel_rfl
  have hC2 : Tryd.prog.cellsOf 23 = 2 := by kernel_rfl
  obtain ⟨c0, c1, c2, rfl⟩ := Go.Joins.array3 (hsz.trans hC)
  obtain ⟨fuel, hf⟩ := h
  obtain ⟨y0, y1, n, hx, _, h0, h1⟩ := trod_struct2 Tryd.underlying25 hf
  obtain ⟨z0, z1, m, hx2, _, g0, g1⟩ := trod_struct2 Tryd.underlying23 h1
  simp only [hC1, hC2, Value.cells, List.drop_zero, List.drop_succ_cons, List.take_succ_cons, List.take_zero] at h0 g0 g1
  obtain ⟨k, e0, rfl, wk⟩ := DataW.trod_int Tryd.underlying3 h0
  obtain ⟨a, e1, rfl, wa⟩ := DataW.trod_int Tryd.underlying3 g0
  obtain ⟨b, e2, rfl, wb⟩ := DataW.trod_int Tryd.underlying3 g1
  simp at e0 e1 e2
  subst e0 e1 e2
  subst hx2
  simp only [Prod.mk.injEq] at hx
  exact ⟨k, a, b, rfl, hx.1, hx.2, wk, wa, wb⟩
set_option maxRecDepth 100000 in
theorem shut_tok (k a b : Int) (wk : (Lit.int .i64 k).wf = true) (wa : (Lit.int .i64 a).wf = true) (wb : (Lit.int .i64 b).wf = true) :
    DataW.Trod enc Tryd.prog w base spare held 25 (.agg #[.int .i64 k, .int .i64 a, .int .i64 b]) (.agg [.lit (.int .i64 k), .agg [.lit (.int .i64 a), .lit (.int .i64 b)]]) [] := by
  have hC : Tryd.prog.cellsOf 25 = 3 := by kernel_rfl
  have hC1 : Tryd.prog.cellsOf 3 = 1 := by kernel_rfl
  have hC2 : Tryd.prog.cellsOf 23 = 2 := by kernel_rfl
  obtain ⟨n0, t0⟩ := shut_int (enc := enc) (w := w) (base := base) (spare := spare) (held := held) Tryd.underlying3 wk
  obtain ⟨n1, t1⟩ := shut_int (enc := enc) (w := w) (base := base) (spare := spare) (held := held) Tryd.underlying3 wa
  obtain ⟨n2, t2⟩ := shut_int (enc := enc) (w := w) (base := base) (spare := spare) (held := held) Tryd.underlying3 wb
  have ti := trod_struct2_mk (enc := enc) (w := w) (base := base) (spare := spare) (held := held) (n := n1 + n2) (cs := [.int .i64 a, .int .i64 b]) Tryd.underlying23 (by simp [hC2])
    (by simpa [hC1, Value.cells] using DataW.trod_le (show n1 ≤ n1 + n2 by omega) t1) (by simpa [hC1, Value.cells] using DataW.trod_le (show n2 ≤ n1 + n2 by omega) t2)
  have tq := trod_struct2_mk (enc := enc) (w := w) (base := base) (spare := spare) (held := held) (n := n0 + (n1 + n2 + 1)) (cs := [.int .i64 k, .int .i64 a, .int .i64 b]) Tryd.underlying25 (by simp [hC])
    (by simpa [hC1, Value.cells] using DataW.trod_le (show n0 ≤ n0 + (n1 + n2 + 1) by omega) t0) (by simpa [hC2, Value.cells] using DataW.trod_le (show n1 + n2 + 1 ≤ n0 + (n1 + n2 + 1) by omega) ti)
  exact ⟨_, by simpa [Value.cells] using tq⟩
end
end Go.Proofs.YtinenhnfhdeidaaDoor
