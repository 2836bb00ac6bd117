/-
  PLAIN MATHEMATICS: Compare of right numbers is the order of what they are, times 10 ^ N; so it is an order.
-/
import Derived.Test.YtpgdmkhcdfhhaaaDoorNumOrd
import Derived.Test.YtpgdmkhcdfhhaaaDoorNumVal
namespace Go.Proofs.YtpgdmkhcdfhhaaaDoor
open Go.RowKit

theorem ten_mono {m n : Nat} (h : m ≤ n) : (10 : Int) ^ m ≤ 10 ^ n := by
  obtain ⟨k, rfl⟩ := Nat.exists_eq_add_of_le h
  rw [Int.pow_add]
  have h1 := ten_pos m
  have := Int.mul_le_mul_of_nonneg_left (ten_pos k) (show 0 ≤ (10 : Int) ^ m by omega)
  omega
theorem numOf_low (a : Bs) (hne : a ≠ []) (hd : a.all isDig = true) (hh : a.head? ≠ some 48) : (10 : Int) ^ (a.length - 1) ≤ numOf a := by
  cases a with
  | nil => exact absurd rfl hne
  | cons x l =>
    rw [List.all_cons, Bool.and_eq_true] at hd
    have hx := dig_bd hd.1
    have hx2 : x.toNat ≠ 48 := fun h => hh (congrArg some (UInt8.toNat_inj.1 h))
    have h0 := (numOf_bd l hd.2).1
    have hT := ten_pos l.length
    rw [numOf_cons, List.length_cons, Nat.add_sub_cancel]
    have := Int.mul_le_mul_of_nonneg_right (show 1 ≤ ((x.toNat : Int) - 48) by omega) (show 0 ≤ (10 : Int) ^ l.length by omega)
    omega
/-- a number without its sign, times 10 ^ N -/
def Dec.mag (N : Nat) (d : Dec) : Int := numOf d.digits * 10 ^ (d.exp + N).toNat
/-- a number times 10 ^ N -/
def Dec.at_ (N : Nat) (d : Dec) : Int := if d.neg = true then - d.mag N else d.mag N
theorem right_head {d : Dec} (h : d.right = true) (hz : d ≠ .zero) : d.digits.head? ≠ some 48 := by
  unfold Dec.right at h
  rw [if_neg hz] at h
  split at h
  · cases h
  · split at h
    · cases h
    · rename_i hn
      unfold Dec.nought0 at hn
      simp only [not_or] at hn
      exact hn.1
theorem right_exp {d : Dec} (h : d.right = true) : -1000000 ≤ d.exp ∧ d.exp ≤ 1000000 := (@right_bd d.neg d.digits d.exp h).2
theorem mag_pos {d : Dec} (N : Nat) (h : d.right = true) (hz : d ≠ .zero) : 1 ≤ d.mag N := by
  obtain ⟨a1, a2, a3⟩ := right_dig h hz
  have := Int.mul_le_mul (numOf_pos d.digits a1 a2 a3) (ten_pos (d.exp + N).toNat) (by omega) (by have := (numOf_bd d.digits a2).1; omega)
  unfold Dec.mag
  omega
theorem mag_pad (N : Nat) (d : Dec) (_ : 0 ≤ d.exp + N) : d.mag N = pad d.digits (d.digits.length + (d.exp + N).toNat) := by
  unfold Dec.mag pad
  rw [Nat.add_sub_cancel_left]
theorem mag_less (N : Nat) {a b : Dec} (ha : a.right = true) (hb : b.right = true) (hza : a ≠ .zero) (hzb : b ≠ .zero) (hN : 1000000 ≤ N) (h : (a.digits.length : Int) + a.exp < b.digits.length + b.exp) : a.mag N < b.mag N := by
  obtain ⟨a1, a2, a3⟩ := right_dig ha hza
  obtain ⟨b1, b2, b3⟩ := right_dig hb hzb
  have ea := right_exp ha
  have eb := right_exp hb
  have lb := List.length_pos_iff.2 b1
  have hA := (pad_bd a.digits (a.digits.length + (a.exp + N).toNat) a2 (by omega)).2
  rw [← mag_pad N a (by omega)] at hA
  have hB := Int.mul_le_mul_of_nonneg_right (numOf_low b.digits b1 b2 (right_head hb hzb)) (show 0 ≤ (10 : Int) ^ (b.exp + N).toNat by have := ten_pos (b.exp + N).toNat; omega)
  rw [← Int.pow_add] at hB
  have hm : (10 : Int) ^ (a.digits.length + (a.exp + N).toNat) ≤ 10 ^ (b.digits.length - 1 + (b.exp + N).toNat) := ten_mono (by omega)
  have hB2 : (10 : Int) ^ (b.digits.length - 1 + (b.exp + N).toNat) ≤ b.mag N := hB
  omega
theorem sizeM_sg (N : Nat) {a b : Dec} (ha : a.right = true) (hb : b.right = true) (hza : a ≠ .zero) (hzb : b ≠ .zero) (hN : 1000000 ≤ N) : sizeM a b = sg (a.mag N - b.mag N) := by
  unfold sizeM
  by_cases h1 : (a.digits.length : Int) + a.exp < b.digits.length + b.exp
  · have := mag_less N ha hb hza hzb hN h1
    rw [if_pos h1, sg_neg (by omega)]
  · rw [if_neg h1]
    by_cases h2 : (b.digits.length : Int) + b.exp < a.digits.length + a.exp
    · have := mag_less N hb ha hzb hza hN h2
      rw [if_pos h2, sg_pos (by omega)]
    · rw [if_neg h2]
      obtain ⟨a1, a2, a3⟩ := right_dig ha hza
      obtain ⟨b1, b2, b3⟩ := right_dig hb hzb
      have ea := right_exp ha
      have eb := right_exp hb
      have e : b.digits.length + (b.exp + N).toNat = a.digits.length + (a.exp + N).toNat := by omega
      rw [cmp_pad a.digits b.digits (a.digits.length + (a.exp + N).toNat) a2 b2 a3 b3 (by omega) (by omega), mag_pad N a (by omega), mag_pad N b (by omega), e]
theorem mag_zero (N : Nat) : Dec.zero.mag N = 0 := by simp [Dec.mag, Dec.zero, numOf]
theorem compareM_sg (N : Nat) {a b : Dec} (ha : a.right = true) (hb : b.right = true) (hN : 1000000 ≤ N) : compareM a b = sg (a.at_ N - b.at_ N) := by
  unfold compareM
  rw [if_pos (by rw [ha, hb]; rfl)]
  have zn : Dec.zero.neg = false := rfl
  by_cases hza : a = .zero
  · subst hza
    by_cases hzb : b = .zero
    · subst hzb; simp [Dec.sign, sg]
    · have hp := mag_pos N hb hzb
      have hz := mag_zero N
      unfold Dec.sign Dec.at_
      rw [if_pos rfl, if_neg hzb, zn, hz]
      cases b.neg
      · simp; rw [sg_neg (by omega)]
      · simp; rw [sg_pos (by omega)]
  · by_cases hzb : b = .zero
    · subst hzb
      have hp := mag_pos N ha hza
      have hz := mag_zero N
      unfold Dec.sign Dec.at_
      rw [if_pos rfl, if_neg hza, zn, hz]
      cases a.neg
      · simp; rw [sg_pos (by omega)]
      · simp; rw [sg_neg (by omega)]
    · have hp := mag_pos N ha hza
      have hq := mag_pos N hb hzb
      have hs := sizeM_sg N ha hb hza hzb hN
      unfold Dec.sign Dec.at_
      rw [if_neg hza, if_neg hzb, hs]
      generalize a.mag N = A at *
      generalize b.mag N = B at *
      unfold sg
      cases a.neg <;> cases b.neg <;> simp <;> (repeat' split) <;> omega
end Go.Proofs.YtpgdmkhcdfhhaaaDoor
