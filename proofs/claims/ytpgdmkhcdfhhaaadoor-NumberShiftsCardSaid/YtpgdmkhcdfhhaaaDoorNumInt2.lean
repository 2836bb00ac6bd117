/-
  PLAIN MATHEMATICS: an int as a number: it is right, and its order is that of ints.
-/
import Derived.Test.YtpgdmkhcdfhhaaaDoorNumInt
import Derived.Test.YtpgdmkhcdfhhaaaDoorNumVal2
namespace Go.Proofs.YtpgdmkhcdfhhaaaDoor
open Go.RowKit

/-- what Of answers -/
def ofM (n : Int) : Dec := numM (decide (n < 0)) (Lib.decDigits n.natAbs) [] false []
theorem numM_zero (b : Bool) : numM b (Lib.decDigits 0) [] false [] = .zero := by
  rw [dec_small (by omega)]
  cases b <;> rfl
theorem ofM_zero : ofM 0 = .zero := numM_zero _
theorem numM_dec (b : Bool) (u : Nat) (hu : 0 < u) : stripR (Lib.decDigits u) ≠ [] ∧
    numM b (Lib.decDigits u) [] false [] = ⟨b, stripR (Lib.decDigits u), ((Lib.decDigits u).length : Int) - (stripR (Lib.decDigits u)).length⟩ := by
  have hne : stripR (Lib.decDigits u) ≠ [] := fun h => by
    have h1 := stripR_num (Lib.decDigits u)
    rw [h, dec_num] at h1
    simp [numOf] at h1
    omega
  refine ⟨hne, ?_⟩
  unfold numM
  simp only [List.append_nil]
  rw [stripL_dec u hu, if_neg hne]
  congr 1
  simp [numOf]
theorem numM_right (b : Bool) (u : Nat) (hl : (Lib.decDigits u).length ≤ 1000) : (numM b (Lib.decDigits u) [] false []).right = true := by
  by_cases hu : u = 0
  · subst hu; rw [numM_zero]; rfl
  · obtain ⟨hne, he⟩ := numM_dec b u (by omega)
    rw [he]
    obtain ⟨t, ht⟩ := stripR_pre (Lib.decDigits u)
    have hlast := stripR_last (Lib.decDigits u)
    have hd := dec_all u
    have hh := dec_head u (by omega)
    have hlen := congrArg List.length ht
    rw [List.length_append] at hlen
    generalize stripR (Lib.decDigits u) = D at *
    have hD : D.all isDig = true := by rw [ht, List.all_append, Bool.and_eq_true] at hd; exact hd.1
    have hH : D.head? ≠ some 48 := by
      cases D with
      | nil => exact absurd rfl hne
      | cons c l => rw [ht] at hh; exact hh
    have hp := List.length_pos_iff.2 hne
    unfold Dec.right
    rw [if_neg (fun h => hne (congrArg Dec.digits h)), if_neg, if_neg]
    · simp only; exact decide_eq_true (by omega)
    · unfold Dec.nought0; exact fun h => h.elim hH hlast
    · unfold Dec.bad
      rintro (h | h | h)
      · simp only at h; omega
      · simp only at h; omega
      · simp only at h; rw [hD] at h; cases h
theorem numM_mag (N : Nat) (b : Bool) (u : Nat) : (numM b (Lib.decDigits u) [] false []).mag N = u * 10 ^ N := by
  by_cases hu : u = 0
  · subst hu; rw [numM_zero, mag_zero]; simp
  · obtain ⟨hne, he⟩ := numM_dec b u (by omega)
    have hs := stripR_num (Lib.decDigits u)
    obtain ⟨t, ht⟩ := stripR_pre (Lib.decDigits u)
    have hlen := congrArg List.length ht
    rw [List.length_append] at hlen
    rw [he]
    unfold Dec.mag
    simp only
    rw [show (((Lib.decDigits u).length : Int) - (stripR (Lib.decDigits u)).length + N).toNat = ((Lib.decDigits u).length - (stripR (Lib.decDigits u)).length) + N by omega, Int.pow_add, ← Int.mul_assoc, ← hs, dec_num]
theorem ofM_at (N : Nat) (n : Int) : (ofM n).at_ N = n * 10 ^ N := by
  by_cases h0 : n = 0
  · subst h0; rw [ofM_zero]; unfold Dec.at_; rw [if_neg (by simp [Dec.zero]), mag_zero]; simp
  · have hm : (ofM n).mag N = n.natAbs * 10 ^ N := numM_mag N _ _
    have hn : (ofM n).neg = decide (n < 0) := congrArg Dec.neg (numM_dec (decide (n < 0)) n.natAbs (by omega)).2
    unfold Dec.at_
    rw [hn, hm]
    by_cases hs : n < 0
    · rw [if_pos (decide_eq_true hs), ← Int.neg_mul]; congr 1; omega
    · rw [if_neg (by simp [hs])]; congr 1; omega
end Go.Proofs.YtpgdmkhcdfhhaaaDoor
