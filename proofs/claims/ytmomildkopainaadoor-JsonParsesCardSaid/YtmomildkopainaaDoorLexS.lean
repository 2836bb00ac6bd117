/-
  WALK: the small cases of layer 4.
-/
import Derived.Test.YtmomildkopainaaDoorLexT
namespace Go.Proofs.YtmomildkopainaaDoor
open Go.RowKit

theorem ls1 : tokensM ⟨#[123, 34, 97, 34, 32, 58, 32, 49, 125]⟩ = ([(2, 0, 1), (8, 1, 4), (1, 4, 5), (7, 5, 6), (1, 6, 7), (9, 7, 8), (3, 8, 9)], 9, 0) := by kernel_rfl
theorem ls2 : tokensM ⟨#[91, 49, 44, 120, 93]⟩ = ([], 3, 2) := by kernel_rfl
theorem ls3 : tokensM ⟨#[48, 49]⟩ = ([], 0, 2) := by kernel_rfl
theorem tokens_lit {R : List Tok × Nat × Int} (a : Array UInt8) (h : tokensM ⟨a⟩ = R) (hs : a.size ≤ 1000) (w : World) (hT : tabs w) : Calls Tryd.prog 28 #[.string ⟨a⟩] w (TokPost R w) := by
  rw [← h]; exact tokens4_any ⟨a⟩ w hT (by unfold maxLen; exact Nat.le_trans hs (by omega))
theorem eq_tok (a b c a' b' c' : Int) : ∀ W : World, (Op.equalIn 10000 61 (.agg #[.int .i64 a, .int .i64 b, .int .i64 c]) (.agg #[.int .i64 a', .int .i64 b', .int .i64 c'])).run Tryd.prog W = .ok ((a == a') && ((b == b') && (c == c'))) W := by
  intro W
  have h25 := Tryd.underlying61
  have h23 := Tryd.underlying49
  have hst : Tryd.prog.stoodInHeld 61 = false := by kernel_rfl
  have hst2 : Tryd.prog.stoodInHeld 49 = false := by kernel_rfl
  go_simp
  by_cases h1 : a = a' <;> by_cases h2 : b = b' <;> by_cases h3 : c = c' <;> simp [h1, h2, h3]

end Go.Proofs.YtmomildkopainaaDoor
