/-
  PLAIN MATHEMATICS: Compare of right numbers is 0 of equal ones alone; it is an order; of ints that of ints.
-/
import Derived.Test.YtfibmmmbpfnccaaGreatDoorNumK
namespace Go.Proofs.YtfibmmmbpfnccaaGreatDoor
open Go.RowKit

theorem compareBytes_zero : ∀ a b : Bs, Lib.compareBytes a b = 0 → a = b
  | [], [], _ => rfl
  | [], y :: b, h => by have h : (-1 : Int) = 0 := h; omega
  | x :: a, [], h => by have h : (1 : Int) = 0 := h; omega
  | x :: a, y :: b, h => by
    have h : (if x < y then -1 else if y < x then 1 else Lib.compareBytes a b) = (0 : Int) := h
    simp only [UInt8.lt_iff_toNat_lt] at h
    split at h
    · omega
    · split at h
      · omega
      · rw [compareBytes_zero a b h, UInt8.toNat_inj.1 (show x.toNat = y.toNat by omega)]
theorem sizeM_zero {a b : Dec} (h : sizeM a b = 0) : a.digits = b.digits ∧ a.exp = b.exp := by
  unfold sizeM at h
  split at h
  · omega
  · split at h
    · omega
    · have e := compareBytes_zero _ _ h
      have e2 := congrArg List.length e
      exact ⟨e, by omega⟩
theorem compareM_zero {a b : Dec} (ha : a.right = true) (hb : b.right = true) : compareM a b = 0 ↔ a = b := by
  have hs := sizeM_zero (a := a) (b := b)
  have hbd := sizeM_bd a b
  constructor
  · intro h
    unfold compareM at h
    rw [if_pos (by rw [ha, hb]; rfl)] at h
    split at h
    · rename_i hsg
      unfold Dec.sign at h hsg
      by_cases hza : a = .zero
      · by_cases hzb : b = .zero
        · rw [hza, hzb]
        · rw [if_pos hza, if_neg hzb] at hsg
          split at hsg <;> omega
      · by_cases hzb : b = .zero
        · rw [if_neg hza, if_pos hzb] at hsg
          split at hsg <;> omega
        · rw [if_neg hza, if_neg hzb] at hsg
          rw [if_neg hza] at h
          have h0 : sizeM a b = 0 := by split at h <;> omega
          have hn : a.neg = b.neg := by
            cases hx : a.neg <;> cases hy : b.neg <;> rw [hx, hy] at hsg <;> simp at hsg <;> rfl
          obtain ⟨h1, h2⟩ := hs h0
          cases a; cases b
          simp only at hn h1 h2
          rw [hn, h1, h2]
    · split at h <;> omega
  · intro h
    rw [h, compareM_sg 1000000 hb hb (Nat.le_refl _), Int.sub_self]
    rfl
theorem compareM_bd (a b : Dec) : -1 ≤ compareM a b ∧ compareM a b ≤ 1 := by
  unfold compareM
  split
  · split
    · exact mul_bd (Dec.sign_bd a) (sizeM_bd a b)
    · split <;> omega
  · unfold rankM; split <;> split <;> omega
theorem sg_swap (x y : Int) : sg (y - x) = - sg (x - y) := by unfold sg; repeat' split
                                                              all_goals omega
theorem compareM_swap (a b : Dec) : compareM b a = - compareM a b := by
  by_cases h : (a.right && b.right) = true
  · have h2 := h
    rw [Bool.and_eq_true] at h2
    rw [compareM_sg 1000000 h2.1 h2.2 (Nat.le_refl _), compareM_sg 1000000 h2.2 h2.1 (Nat.le_refl _), sg_swap]
  · unfold compareM
    rw [if_neg h, if_neg (by rw [Bool.and_comm]; exact h)]
    omega
theorem sg_le {x : Int} : sg x ≤ 0 ↔ x ≤ 0 := by
  unfold sg
  split
  · omega
  · split <;> omega
theorem compareM_trans (a b c : Dec) (h1 : compareM a b ≤ 0) (h2 : compareM b c ≤ 0) : compareM a c ≤ 0 := by
  cases ha : a.right <;> cases hb : b.right <;> cases hc : c.right
  case true.true.true =>
    rw [compareM_sg 1000000 ha hb (Nat.le_refl _), sg_le] at h1
    rw [compareM_sg 1000000 hb hc (Nat.le_refl _), sg_le] at h2
    rw [compareM_sg 1000000 ha hc (Nat.le_refl _), sg_le]
    omega
  all_goals
    unfold compareM at *
    rw [ha, hb] at h1
    rw [hb, hc] at h2
    rw [ha, hc]
    simp [rankM] at *
theorem ofM_cmp (i k : Int) (hi : (Lib.decDigits i.natAbs).length ≤ 1000) (hk : (Lib.decDigits k.natAbs).length ≤ 1000) : compareM (ofM i) (ofM k) = sg (i - k) := by
  rw [compareM_sg (a := ofM i) (b := ofM k) 1000000 (numM_right _ _ hi) (numM_right _ _ hk) (Nat.le_refl _), ofM_at, ofM_at, ← Int.sub_mul]
  have hT := ten_pos 1000000
  generalize (10 : Int) ^ 1000000 = T at *
  generalize i - k = X
  unfold sg
  by_cases h1 : X < 0
  · rw [if_pos h1, if_pos (Int.mul_neg_of_neg_of_pos h1 (by omega))]
  · rw [if_neg h1]
    by_cases h2 : 0 < X
    · have := Int.mul_pos h2 (show 0 < T by omega)
      rw [if_pos h2, if_neg (by omega), if_pos this]
    · rw [if_neg h2, show X = 0 by omega]; simp
end Go.Proofs.YtfibmmmbpfnccaaGreatDoor
