/-
  WALKS: small().
-/
import Derived.Test.YtccdmoogjcgcfaaOrH
import Derived.Test.YtccdmoogjcgcfaaOrT
namespace Go.Proofs.Ytccdmoogjcgcfaa
open Go.RowKit

theorem sortL_of {l s : List Bs} (hp : l.Perm s) (hs : s.Pairwise fun x y => decide (x ≤ y) = true) : sortL l = s := by
  refine List.Perm.eq_of_pairwise (le := fun x y => decide (x ≤ y) = true) (fun a b _ _ h1 h2 => List.le_antisymm (of_decide_eq_true h1) (of_decide_eq_true h2)) ?_ hs ((sortL_perm l).trans hp)
  exact List.pairwise_mergeSort (le := fun x y : Bs => decide (x ≤ y)) (fun a b c h1 h2 => decide_eq_true (List.le_trans (of_decide_eq_true h1) (of_decide_eq_true h2))) (fun a b => by
    rcases List.le_total a b with h | h
    · simp [h]
    · simp [h]) l
/-- what is merged, where the answer is known -/
theorem merge_some {rb rl rr rn : SRow} {w : World} {out : List Bs} (h0 : rb.ok w) (h1 : rl.ok w) (h2 : rr.ok w) (h3 : rn.ok w) (z0 : Shorts rb.l) (z1 : Shorts rl.l) (z2 : Shorts rr.l) (z3 : Shorts rn.l) (ho : onceAll rb.l rl.l rr.l rn.l = true) (hk : okAll rb.l rl.l rr.l rn.l) (hm : mergeAll rb.l rl.l rr.l rn.l = some out) :
    Calls Try.prog 11 #[rb.v, rl.v, rr.v, rn.v] w fun e w' => ∃ r : SRow, r.l = out ∧ e = .returned (.tuple #[r.v, .bool true]) ∧ r.ok w' ∧ Below w.heap.size w w' := by
  refine (merge_any rb rl rr rn w h0 h1 h2 h3 z0 z1 z2 z3).mono ?_
  rintro e w' ⟨⟨h, _⟩ | ⟨_, _, out', v, h, rfl, hr⟩, hb⟩
  · exact absurd ⟨ho, hk, out, hm⟩ h
  · rw [hm] at h
    have := Option.some.inj h
    subst this
    rcases row_len hr with ⟨h1, rfl⟩ | ⟨g, c, rfl⟩
    · refine ⟨⟨none, 0, out⟩, rfl, by unfold SRow.v; rw [h1], ⟨by rw [h1]; exact Nat.le_refl _, Nat.zero_le _, by rw [List.eq_nil_of_length_eq_zero h1]; exact StrsIn.nil _ _⟩, hb⟩
    · rcases hr.2 with ⟨h4, _⟩ | ⟨g', c', cur, h4, _, _, r1, r2, _⟩
      · cases h4
      · cases h4
        refine ⟨⟨some ⟨g, 0, none⟩, c, out⟩, rfl, rfl, ⟨r1, r2, fun i hi => ⟨g, 0, rfl, ?_⟩⟩, hb⟩
        have h5 := hr.cells (g := g) rfl i (.string (st out[i])) (by unfold strCells; rw [List.getElem?_map, List.getElem?_eq_getElem hi]; rfl)
        rw [Go.WideShapes.add_plain] at h5
        exact h5
theorem merge_none {rb rl rr rn : SRow} {w : World} (h0 : rb.ok w) (h1 : rl.ok w) (h2 : rr.ok w) (h3 : rn.ok w) (z0 : Shorts rb.l) (z1 : Shorts rl.l) (z2 : Shorts rr.l) (z3 : Shorts rn.l) (hn : ¬ (onceAll rb.l rl.l rr.l rn.l = true ∧ okAll rb.l rl.l rr.l rn.l ∧ ∃ out, mergeAll rb.l rl.l rr.l rn.l = some out)) :
    Calls Try.prog 11 #[rb.v, rl.v, rr.v, rn.v] w fun e w' => e = .returned (.tuple #[.slice none 0 0, .bool false]) ∧ Below w.heap.size w w' := by
  refine (merge_any rb rl rr rn w h0 h1 h2 h3 z0 z1 z2 z3).mono ?_
  rintro e w' ⟨⟨_, h⟩ | ⟨h1, h2, out, v, h3, _⟩, hb⟩
  · exact ⟨h, hb⟩
  · exact absurd ⟨h1, h2, out, h3⟩ hn
/-- a row as it is written down -/
theorem lit_ok {w : World} {g n : Nat} {l : List Bs} (h : Whole w g 9 (strCells l).toArray) (hl : l.length = n) (hm : n ≤ maxLen) : (⟨some ⟨g, 0, none⟩, n, l⟩ : SRow).ok w := ⟨by simp only; omega, hm, fun i hi => ⟨g, 0, rfl, by
  rw [Nat.zero_add, h.at_ i]
  simp only at hi
  simp [strCells, hi]⟩⟩
def a1 : Bs := [97]
def b1 : Bs := [98]
def c1 : Bs := [99]
def d1 : Bs := [100]
def x1 : Bs := [120]
def y1 : Bs := [121]
theorem all_pairs {lb ll lr l : List Bs} (h : ((List.range l.length).all fun i => (List.range l.length).all fun j => okP lb ll lr l i j) = true) : okAll lb ll lr l := fun i j hij hj => by
  have h1 := List.all_eq_true.1 h i (List.mem_range.2 (by omega))
  exact List.all_eq_true.1 h1 j (List.mem_range.2 hj)
theorem small_1 : onceAll [a1, b1, c1] [b1, a1, c1] [a1, b1, c1, d1] [a1, b1, c1, d1] = true ∧ okAll [a1, b1, c1] [b1, a1, c1] [a1, b1, c1, d1] [a1, b1, c1, d1] ∧ mergeAll [a1, b1, c1] [b1, a1, c1] [a1, b1, c1, d1] [a1, b1, c1, d1] = some [b1, a1, c1, d1] :=
  ⟨by kernel_rfl, all_pairs (by kernel_rfl), by
    unfold mergeAll
    rw [sortL_of (List.Perm.refl _) (by unfold a1 b1 c1 d1; decide)]
    kernel_rfl⟩
theorem small_2 : onceAll [] [x1] [y1] [y1, x1] = true ∧ okAll [] [x1] [y1] [y1, x1] ∧ mergeAll [] [x1] [y1] [y1, x1] = some [x1, y1] :=
  ⟨by kernel_rfl, all_pairs (by kernel_rfl), by
    unfold mergeAll
    rw [sortL_of (List.Perm.swap x1 y1 []) (by unfold x1 y1; decide)]
    kernel_rfl⟩
theorem small_3 : ¬ (onceAll [] [x1, y1] [y1, x1] [x1, y1] = true ∧ okAll [] [x1, y1] [y1, x1] [x1, y1] ∧ ∃ out, mergeAll [] [x1, y1] [y1, x1] [x1, y1] = some out) := by
  rintro ⟨_, h, _⟩
  have h1 := h 0 1 (by decide) (by decide)
  have h2 : okP [] [x1, y1] [y1, x1] [x1, y1] 0 1 = false := by kernel_rfl
  rw [h2] at h1
  cases h1
theorem small_4 : AheadM [a1, b1, c1] [a1, b1, c1] [b1, a1] a1 b1 = (1, true) := by kernel_rfl
end Go.Proofs.Ytccdmoogjcgcfaa
