/-
  PLAIN MATHEMATICS: a number as an int; what strconv.ParseInt answers of digits; Parse of an int's text.
-/
import Derived.Test.YtpgdmkhcdfhhaaaDoorNumRP2
import Derived.Test.YtpgdmkhcdfhhaaaDoorNumInt2
import Derived.Lib.ParseIntB
import Derived.Lib.Repeat
namespace Go.Proofs.YtpgdmkhcdfhhaaaDoor
open Go.RowKit

/-- what Int answers -/
def intV (neg : Bool) (v : Int) : Int × Bool :=
  if neg = true then (if v ≤ 9223372036854775808 then (-v, true) else (0, false)) else (if v ≤ 9223372036854775807 then (v, true) else (0, false))
def intM (d : Dec) : Int × Bool :=
  if d.right = true ∧ 0 ≤ d.exp ∧ d.digits.length + d.exp ≤ 19 then intV d.neg (numOf (d.digits ++ List.replicate d.exp.toNat 48)) else (0, false)

theorem intV_t (v : Int) : intV true v = if v ≤ 9223372036854775808 then (-v, true) else (0, false) := rfl
theorem intV_f (v : Int) : intV false v = if v ≤ 9223372036854775807 then (v, true) else (0, false) := rfl
theorem parseUintM_dig : ∀ (l : Bs) (acc : Nat), l.all isDig = true → acc < 10 ^ (19 - l.length) → l.length ≤ 19 →
    Lib.parseUintM (2 ^ 64 - 1) acc l = .ok (acc * 10 ^ l.length + (numOf l).toNat)
  | [], acc, _, _, _ => by simp [Lib.parseUintM, numOf]
  | c :: l, acc, h, ha, hl => by
    rw [List.all_cons, Bool.and_eq_true] at h
    have hc := h.1
    unfold isDig at hc
    simp only [Bool.and_eq_true, decide_eq_true_eq] at hc
    rw [List.length_cons] at ha hl
    have h18 : 10 ^ (19 - (l.length + 1)) ≤ 10 ^ 18 := Nat.pow_le_pow_right (by omega) (by omega)
    have e18 : (10 : Nat) ^ 18 = 1000000000000000000 := by decide
    have hs : 10 ^ (19 - l.length) = 10 * 10 ^ (19 - (l.length + 1)) := by
      rw [show 19 - l.length = (19 - (l.length + 1)) + 1 by omega, Nat.pow_succ, Nat.mul_comm]
    have ih := parseUintM_dig l (acc * 10 + (c.toNat - 48)) h.2 (by rw [hs]; omega) (by omega)
    unfold Lib.parseUintM
    rw [if_pos hc, if_neg (by omega), if_neg (by omega), ih]
    congr 1
    have hb := (numOf_bd l h.2).1
    rw [numOf_cons, List.length_cons, Nat.pow_succ]
    have hp : (((c.toNat : Int) - 48) * 10 ^ l.length + numOf l).toNat = (c.toNat - 48) * 10 ^ l.length + (numOf l).toNat := by
      have e1 : ((c.toNat : Int) - 48) = ((c.toNat - 48 : Nat) : Int) := by omega
      have e2 : ((10 : Int) ^ l.length) = ((10 ^ l.length : Nat) : Int) := by simp
      rw [e1, e2, ← Int.natCast_mul]
      omega
    rw [hp, Nat.add_mul, Nat.mul_assoc, Nat.mul_comm 10 _]
    omega
theorem parseIntB_dig (neg : Bool) (l : Bs) (h : l.all isDig = true) (hl : l.length ≤ 19) (h0 : l ≠ []) :
    Lib.parseIntB 64 ((if neg = true then [45] else []) ++ l) = if (intV neg (numOf l)).2 = true then .ok (intV neg (numOf l)).1 else .range := by
  have hp := parseUintM_dig l 0 h (Nat.pow_pos (by omega)) hl
  rw [Nat.zero_mul, Nat.zero_add] at hp
  have hu : Lib.parseUintB 64 l = .ok (numOf l).toNat := by unfold Lib.parseUintB; rw [if_neg h0]; exact hp
  have hb := (numOf_bd l h).1
  generalize hv : numOf l = v at *
  cases neg with
  | true =>
    show Lib.parseIntB 64 (45 :: l) = _
    unfold Lib.parseIntB
    simp only
    rw [if_pos (.inr (by decide)), hu]
    simp only
    rw [if_neg (fun hh => hh.1 (by decide))]
    by_cases hc : v ≤ 9223372036854775808
    · rw [if_neg (fun hh => by have := hh.2; omega), if_pos (by decide), intV_t, if_pos hc]
      simp only [if_true]
      congr 1; omega
    · rw [if_pos ⟨by decide, by omega⟩, intV_t, if_neg hc]
      simp
  | false =>
    cases l with
    | nil => exact absurd rfl h0
    | cons c r =>
      rw [List.all_cons, Bool.and_eq_true] at h
      have hc := h.1
      unfold isDig at hc
      simp only [Bool.and_eq_true, decide_eq_true_eq] at hc
      rw [if_neg (by simp), List.nil_append]
      unfold Lib.parseIntB
      simp only
      rw [if_neg (by omega), hu]
      simp only
      by_cases hc2 : v ≤ 9223372036854775807
      · rw [if_neg (fun hh => by have := hh.2; omega), if_neg (fun hh => by have := hh.1; omega), if_neg (by omega), intV_f, if_pos hc2]
        simp only [if_true]
        congr 1; omega
      · rw [if_pos ⟨by omega, by omega⟩, intV_f, if_neg hc2]
        simp
theorem repeat_nought (k : Nat) : Lib.repeatL [48] k = List.replicate k 48 := by
  induction k with
  | zero => rfl
  | succ k ih => rw [Lib.repeatL, ih]; rfl
theorem replicate_dig (k : Nat) : (List.replicate k (48 : UInt8)).all isDig = true := by
  induction k with
  | zero => rfl
  | succ k ih => rw [List.replicate_succ, List.all_cons, ih]; rfl
/-- Parse of an int's text -/
theorem parseM_itoa (n : Int) (hl : (Lib.decDigits n.natAbs).length ≤ 1000) : parseM (Lib.itoa n) = (ofM n, 0) := by
  have hr := numM_right (decide (n < 0)) n.natAbs hl
  unfold parseM
  rw [splitM_itoa]
  simp only
  rw [if_neg (by simp only [List.length_nil]; omega), show stripL [] = [] from rfl, if_neg (by simp), if_pos hr]
  rfl
end Go.Proofs.YtpgdmkhcdfhhaaaDoor
