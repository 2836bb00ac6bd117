/-
  PLAIN MATHEMATICS: the order of bytes of two texts of digits is the order of the numbers that they are behind a point.
-/
import Derived.Test.YtfibmmmbpfnccaaGreatDoorNumOf
namespace Go.Proofs.YtfibmmmbpfnccaaGreatDoor
open Go.RowKit

def sg (x : Int) : Int := if x < 0 then -1 else if 0 < x then 1 else 0
theorem sg_neg {x : Int} (h : x < 0) : sg x = -1 := if_pos h
theorem sg_pos {x : Int} (h : 0 < x) : sg x = 1 := (if_neg (by omega)).trans (if_pos h)
theorem ten_pos (n : Nat) : (1 : Int) ≤ 10 ^ n := by have := Int.pow_pos (n := (10 : Int)) (m := n) (by omega); omega
theorem numOf_foldl (l : Bs) : ∀ n : Int, l.foldl (fun n c => n * 10 + ((c.toNat : Int) - 48)) n = n * 10 ^ l.length + numOf l := by
  induction l with
  | nil => intro n; simp [numOf]
  | cons x l ih =>
    intro n
    have h0 : numOf (x :: l) = l.foldl (fun n c => n * 10 + ((c.toNat : Int) - 48)) (0 * 10 + ((x.toNat : Int) - 48)) := rfl
    rw [List.foldl_cons, ih, h0, ih, List.length_cons, Int.pow_succ]
    generalize (10 : Int) ^ l.length = T
    generalize numOf l = Q
    grind
theorem numOf_cons (x : UInt8) (l : Bs) : numOf (x :: l) = ((x.toNat : Int) - 48) * 10 ^ l.length + numOf l := by
  have h0 : numOf (x :: l) = l.foldl (fun n c => n * 10 + ((c.toNat : Int) - 48)) (0 * 10 + ((x.toNat : Int) - 48)) := rfl
  rw [h0, numOf_foldl]
  generalize (10 : Int) ^ l.length = T
  generalize numOf l = Q
  grind
theorem dig_bd {x : UInt8} (h : isDig x = true) : 0 ≤ (x.toNat : Int) - 48 ∧ (x.toNat : Int) - 48 ≤ 9 := by
  unfold isDig at h; simp at h; omega
theorem last_tail {x : UInt8} {l : Bs} (h : (x :: l).getLast? ≠ some 48) : l.getLast? ≠ some 48 := by
  cases l with
  | nil => simp
  | cons y l => rwa [List.getLast?_cons_cons] at h
theorem numOf_pos : ∀ a : Bs, a ≠ [] → a.all isDig = true → a.getLast? ≠ some 48 → 1 ≤ numOf a
  | [], h, _, _ => absurd rfl h
  | x :: l, _, hd, hl => by
    rw [List.all_cons, Bool.and_eq_true] at hd
    have hx := dig_bd hd.1
    have hT := ten_pos l.length
    rw [numOf_cons]
    cases l with
    | nil =>
      have : x.toNat ≠ 48 := fun h => hl (by rw [List.getLast?_singleton]; exact congrArg some (UInt8.toNat_inj.1 h))
      simp [numOf]
      omega
    | cons y l =>
      have := numOf_pos (y :: l) (by simp) hd.2 (last_tail hl)
      have h2 : 0 ≤ ((x.toNat : Int) - 48) * 10 ^ (y :: l).length := Int.mul_nonneg hx.1 (by omega)
      omega
/-- a text of digits behind a point, M places wide -/
def pad (a : Bs) (M : Nat) : Int := numOf a * 10 ^ (M - a.length)
theorem pad_bd (a : Bs) (M : Nat) (hd : a.all isDig = true) (hM : a.length ≤ M) : 0 ≤ pad a M ∧ pad a M ≤ 10 ^ M - 1 := by
  obtain ⟨h0, h1⟩ := numOf_bd a hd
  have hT := ten_pos (M - a.length)
  have hp : (10 : Int) ^ M = 10 ^ a.length * 10 ^ (M - a.length) := by rw [← Int.pow_add]; congr 1; omega
  unfold pad
  rw [hp]
  generalize (10 : Int) ^ (M - a.length) = T at *
  generalize (10 : Int) ^ a.length = L at *
  generalize numOf a = Q at *
  refine ⟨Int.mul_nonneg h0 (by omega), ?_⟩
  have : Q * T ≤ (L - 1) * T := Int.mul_le_mul_of_nonneg_right h1 (by omega)
  have e : (L - 1) * T = L * T - T := by grind
  omega
theorem pad_cons (x : UInt8) (a : Bs) (M : Nat) (hM : a.length ≤ M) : pad (x :: a) (M + 1) = ((x.toNat : Int) - 48) * 10 ^ M + pad a M := by
  have hp : (10 : Int) ^ M = 10 ^ a.length * 10 ^ (M - a.length) := by rw [← Int.pow_add]; congr 1; omega
  unfold pad
  rw [numOf_cons, List.length_cons, hp, show M + 1 - (a.length + 1) = M - a.length by omega]
  generalize (10 : Int) ^ (M - a.length) = T
  generalize (10 : Int) ^ a.length = L
  grind
theorem cmp_pad : ∀ (a b : Bs) (M : Nat), a.all isDig = true → b.all isDig = true → a.getLast? ≠ some 48 → b.getLast? ≠ some 48 → a.length ≤ M → b.length ≤ M → Lib.compareBytes a b = sg (pad a M - pad b M)
  | [], [], M, _, _, _, _, _, _ => by simp [Lib.compareBytes, sg]
  | [], y :: b, M, _, hb, _, hlb, _, hM => by
    have := numOf_pos (y :: b) (by simp) hb hlb
    have hp : 1 ≤ pad (y :: b) M := by
      unfold pad
      have := Int.mul_le_mul this (ten_pos (M - (y :: b).length)) (by omega) (by omega)
      omega
    have h0 : pad [] M = 0 := by simp [pad, numOf]
    rw [sg_neg (by omega)]; rfl
  | x :: a, [], M, ha, _, hla, _, hM, _ => by
    have := numOf_pos (x :: a) (by simp) ha hla
    have hp : 1 ≤ pad (x :: a) M := by
      unfold pad
      have := Int.mul_le_mul this (ten_pos (M - (x :: a).length)) (by omega) (by omega)
      omega
    have h0 : pad [] M = 0 := by simp [pad, numOf]
    rw [sg_pos (by omega)]; rfl
  | x :: a, y :: b, 0, _, _, _, _, h, _ => by simp at h
  | x :: a, y :: b, M + 1, ha, hb, hla, hlb, hM, hM2 => by
    rw [List.all_cons, Bool.and_eq_true] at ha hb
    simp only [List.length_cons] at hM hM2
    have hx := dig_bd ha.1
    have hy := dig_bd hb.1
    have pa := pad_bd a M ha.2 (by omega)
    have pb := pad_bd b M hb.2 (by omega)
    have ih := cmp_pad a b M ha.2 hb.2 (last_tail hla) (last_tail hlb) (by omega) (by omega)
    rw [pad_cons x a M (by omega), pad_cons y b M (by omega)]
    have hT := ten_pos M
    show (if x < y then -1 else if y < x then 1 else Lib.compareBytes a b) = _
    rw [ih]
    simp only [UInt8.lt_iff_toNat_lt]
    generalize (10 : Int) ^ M = T at *
    generalize pad a M = A at *
    generalize pad b M = B at *
    by_cases h1 : x.toNat < y.toNat
    · rw [if_pos h1, sg_neg]
      have : ((x.toNat : Int) - 48) * T + T ≤ ((y.toNat : Int) - 48) * T := by
        have := Int.mul_le_mul_of_nonneg_right (show ((x.toNat : Int) - 48) + 1 ≤ (y.toNat : Int) - 48 by omega) (show 0 ≤ T by omega)
        have e : (((x.toNat : Int) - 48) + 1) * T = ((x.toNat : Int) - 48) * T + T := by grind
        omega
      omega
    · rw [if_neg h1]
      by_cases h2 : y.toNat < x.toNat
      · rw [if_pos h2, sg_pos]
        have : ((y.toNat : Int) - 48) * T + T ≤ ((x.toNat : Int) - 48) * T := by
          have := Int.mul_le_mul_of_nonneg_right (show ((y.toNat : Int) - 48) + 1 ≤ (x.toNat : Int) - 48 by omega) (show 0 ≤ T by omega)
          have e : (((y.toNat : Int) - 48) + 1) * T = ((y.toNat : Int) - 48) * T + T := by grind
          omega
        omega
      · rw [if_neg h2, show x.toNat = y.toNat by omega]
        congr 1
        omega
end Go.Proofs.YtfibmmmbpfnccaaGreatDoor
