/-
  WALK: the small cases of layer 4.
-/
import Derived.Test.YtinenhnfhdeidaaDoorLexT
namespace Go.Proofs.YtinenhnfhdeidaaDoor
open Go.RowKit

theorem ls1 : tokensM ⟨#[123, 34, 97, 34, 32, 58, 32, 49, 125]⟩ = ([(2, 0, 1), (8, 1, 4), (1, 4, 5), (7, 5, 6), (1, 6, 7), (9, 7, 8), (3, 8, 9)], 9, 0) := by kernel_rfl
theorem ls2 : tokensM ⟨#[91, 49, 44, 120, 93]⟩ = ([], 3, 2) := by kernel_rfl
theorem ls3 : tokensM ⟨#[48, 49]⟩ = ([], 0, 2) := by kernel_rfl
theorem tokens_lit {R : List Tok × Nat × Int} (a : Array UInt8) (h : tokensM ⟨a⟩ = R) (hs : a.size ≤ 1000) (w : World) (hT : tabs w) : Calls Tryd.prog 15 #[.string ⟨a⟩] w (TokPost R w) := by
  rw [← h]; exact tokens4_any ⟨a⟩ w hT (by unfold maxLen; exact Nat.le_trans hs (by omega))
theorem eq_tok (a b c a' b' c' : Int) : ∀ W : World, (Op.equalIn 10000 25 (.agg #[.int .i64 a, .int .i64 b, .int .i64 c]) (.agg #[.int .i64 a', .int .i64 b', .int .i64 c'])).run Tryd.prog W = .ok ((a == a') && ((b == b') && (c == c'))) W := by
  intro W
  have h25 := Tryd.underlying25
  have h23 := Tryd.underlying23
  have hst : Tryd.prog.stoodInHeld 25 = false := by kernel_rfl
  have hst2 : Tryd.prog.stoodInHeld 23 = false := by kernel_rfl
  go_simp
  by_cases h1 : a = a' <;> by_cases h2 : b = b' <;> by_cases h3 : c = c' <;> simp [h1, h2, h3]

set_option maxHeartbeats 1000000 in
set_option maxRecDepth 1000000 in
theorem lsmall_any (w : World) (hT : tabs w) : Calls Tryd.prog 14 #[] w fun e w' => e = .returned (.bool true) ∧ Below w.heap.size w w' := by
  have HT := hq hT
  clear hT
  go_enter Tryd.func14, Tryd.ntmps14
  go_wp2_with fail
  refine (tokens_lit _ ls1 (by decide) _ HT.o).mono ?_
  rintro e w1 ⟨v, rfl, hown, hb⟩
  have HT1 := hq (tabs_grow HT.o hb)
  obtain ⟨g, cap, rfl, hg1, hg2, hcap, hcm, hfr, hcell⟩ := toks_cell hown (by decide)
  have k0 := hcell 0 _ rfl
  have k1 := hcell 1 _ rfl
  have k5 := hcell 5 _ rfl
  have HG := hq hg2
  clear hown hfr hcell
  go_wp2_with fail
  refine (tokens_lit _ ls2 (by decide) _ HT1.o).mono ?_
  rintro e w2 ⟨v, rfl, hown, hb2⟩
  obtain ⟨_, _, rfl⟩ := toks_len hown
  have HT2 := hq (tabs_grow HT1.o hb2)
  have HB := hq hb2
  clear hb2 hown
  go_wp2_with fail
  refine (tokens_lit _ ls3 (by decide) _ HT2.o).mono ?_
  rintro e w3 ⟨v, rfl, hown, hb2⟩
  obtain ⟨_, _, rfl⟩ := toks_len hown
  have hbc := below_trans HB.o hb2
  have c0 : w3.cell? ⟨g, 0, none⟩ = some (.int .i64 2) := (hbc.cell (p := ⟨g, 0, none⟩) HG.o).trans k0.1
  have c1 : w3.cell? ⟨g, 1, none⟩ = some (.int .i64 0) := (hbc.cell (p := ⟨g, 1, none⟩) HG.o).trans k0.2.1
  have c2 : w3.cell? ⟨g, 2, none⟩ = some (.int .i64 1) := (hbc.cell (p := ⟨g, 2, none⟩) HG.o).trans k0.2.2
  have c3 : w3.cell? ⟨g, 3, none⟩ = some (.int .i64 8) := (hbc.cell (p := ⟨g, 3, none⟩) HG.o).trans k1.1
  have c4 : w3.cell? ⟨g, 4, none⟩ = some (.int .i64 1) := (hbc.cell (p := ⟨g, 4, none⟩) HG.o).trans k1.2.1
  have c5 : w3.cell? ⟨g, 5, none⟩ = some (.int .i64 4) := (hbc.cell (p := ⟨g, 5, none⟩) HG.o).trans k1.2.2
  have c15 : w3.cell? ⟨g, 15, none⟩ = some (.int .i64 9) := (hbc.cell (p := ⟨g, 15, none⟩) HG.o).trans k5.1
  have hb3 := below_trans hb hbc
  have q1 : ∀ W : World, (Op.equalIn 10000 25 (.agg #[.int .i64 2, .int .i64 0, .int .i64 1]) (.agg #[.int .i64 2, .int .i64 0, .int .i64 1])).run Tryd.prog W = .ok true W := eq_tok 2 0 1 2 0 1
  have q2 : ∀ W : World, (Op.equalIn 10000 25 (.agg #[.int .i64 8, .int .i64 1, .int .i64 4]) (.agg #[.int .i64 8, .int .i64 1, .int .i64 4])).run Tryd.prog W = .ok true W := eq_tok 8 1 4 8 1 4
  clear hown hbc hb2 hb k0 k1 k5
  go_wp2_with fail
  go_ret
  exact ⟨rfl, hb3⟩
end Go.Proofs.YtinenhnfhdeidaaDoor
