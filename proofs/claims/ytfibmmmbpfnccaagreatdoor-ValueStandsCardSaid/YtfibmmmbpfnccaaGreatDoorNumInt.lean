/-
  PLAIN MATHEMATICS: the text of an int is a literal without fraction and exponent; its digits are the int's.
-/
import Derived.Test.YtfibmmmbpfnccaaGreatDoorNumSplit
import Derived.Test.YtfibmmmbpfnccaaGreatDoorNumVal
import Derived.Lib.ItoaLen
namespace Go.Proofs.YtfibmmmbpfnccaaGreatDoor
open Go.RowKit

theorem dec_small {u : Nat} (h : u < 10) : Lib.decDigits u = [UInt8.ofNat (48 + u)] := by rw [Lib.decDigits, dif_pos h]
theorem dec_great {u : Nat} (h : ¬ u < 10) : Lib.decDigits u = Lib.decDigits (u / 10) ++ [UInt8.ofNat (48 + u % 10)] := by rw [Lib.decDigits, dif_neg h]
theorem of_nat_dig {k : Nat} (h : k < 10) : (UInt8.ofNat (48 + k)).toNat = 48 + k := by
  rw [UInt8.toNat_ofNat']; omega
theorem dig_of_nat {k : Nat} (h : k < 10) : isDig (UInt8.ofNat (48 + k)) = true := by
  unfold isDig; rw [of_nat_dig h]; simp; omega
theorem dec_all (u : Nat) : (Lib.decDigits u).all isDig = true := by
  induction u using Nat.strongRecOn with
  | ind u ih =>
    by_cases h : u < 10
    · rw [dec_small h, List.all_cons, dig_of_nat h]; rfl
    · rw [dec_great h, List.all_append, ih (u / 10) (by omega), List.all_cons, dig_of_nat (Nat.mod_lt u (by omega : 0 < 10))]; rfl
theorem dec_num (u : Nat) : numOf (Lib.decDigits u) = u := by
  induction u using Nat.strongRecOn with
  | ind u ih =>
    by_cases h : u < 10
    · rw [dec_small h]; simp [numOf]; have := of_nat_dig h; simp at this; omega
    · rw [dec_great h, numOf_snoc, ih (u / 10) (by omega), of_nat_dig (Nat.mod_lt u (by omega : 0 < 10))]; omega
theorem dec_ne (u : Nat) : Lib.decDigits u ≠ [] := by
  by_cases h : u < 10
  · rw [dec_small h]; simp
  · rw [dec_great h]; simp
theorem dec_head (u : Nat) (hu : 0 < u) : (Lib.decDigits u).head? ≠ some 48 := by
  induction u using Nat.strongRecOn with
  | ind u ih =>
    by_cases h : u < 10
    · rw [dec_small h]
      intro hh
      have := congrArg UInt8.toNat (Option.some.inj hh)
      rw [of_nat_dig h] at this
      simp at this; omega
    · have hi := ih (u / 10) (by omega) (by omega)
      rw [dec_great h]
      cases he : Lib.decDigits (u / 10) with
      | nil => exact absurd he (dec_ne _)
      | cons c l => rw [he] at hi; exact hi
theorem takeWhile_eq {l : Bs} (h : l.all isDig = true) : l.takeWhile isDig = l ∧ l.dropWhile isDig = [] := by
  induction l with
  | nil => exact ⟨rfl, rfl⟩
  | cons c l ih =>
    rw [List.all_cons, Bool.and_eq_true] at h
    obtain ⟨h1, h2⟩ := ih h.2
    exact ⟨by rw [List.takeWhile_cons, if_pos h.1, h1], by rw [List.dropWhile_cons, if_pos h.1, h2]⟩
theorem splitWhole_dec (neg : Bool) (u : Nat) : splitWhole neg (Lib.decDigits u) = some ⟨neg, Lib.decDigits u, [], false, []⟩ := by
  obtain ⟨h1, h2⟩ := takeWhile_eq (dec_all u)
  unfold splitWhole
  simp only [h1, h2]
  rw [if_neg]
  · rfl
  · rintro (h | ⟨h, hh⟩)
    · exact dec_ne u h
    · by_cases h0 : u = 0
      · subst h0; rw [dec_small (by omega)] at h; simp at h
      · exact dec_head u (by omega) hh
theorem head_not (u : Nat) : ((Lib.decDigits u).head? == some 45) = false := by
  have hd := dec_all u
  cases he : Lib.decDigits u with
  | nil => rfl
  | cons c l =>
    rw [he, List.all_cons, Bool.and_eq_true] at hd
    have := dig_bd hd.1
    rw [List.head?_cons]
    refine beq_eq_false_iff_ne.2 (fun h => ?_)
    have := congrArg UInt8.toNat (Option.some.inj h)
    simp at this; omega
theorem splitM_itoa (n : Int) : splitM (Lib.itoa n) = some ⟨decide (n < 0), Lib.decDigits n.natAbs, [], false, []⟩ := by
  unfold Lib.itoa splitM
  by_cases h : n < 0
  · rw [if_pos h, if_pos (by rfl), List.tail_cons, splitWhole_dec, decide_eq_true h]
  · rw [if_neg h, if_neg (by rw [head_not]; simp), splitWhole_dec, decide_eq_false h, show n.natAbs = n.toNat by omega]
theorem stripL_dec (u : Nat) (hu : 0 < u) : stripL (Lib.decDigits u) = Lib.decDigits u := by
  have hh := dec_head u hu
  unfold stripL Lib.trimLeftB
  cases he : Lib.decDigits u with
  | nil => rfl
  | cons c l =>
    rw [he, List.head?_cons] at hh
    rw [List.dropWhile_cons, if_neg]
    simp only [beq_iff_eq]
    exact fun h => hh (congrArg some h)
theorem stripR_snoc (l : Bs) (c : UInt8) : stripR (l ++ [c]) = if c = 48 then stripR l else l ++ [c] := by
  unfold stripR Lib.trimRightB
  rw [List.reverse_append, List.reverse_singleton, List.singleton_append, List.dropWhile_cons]
  by_cases h : c = 48
  · rw [if_pos (by simp [h]), if_pos h]
  · rw [if_neg (by simp [h]), if_neg h]; simp
theorem stripR_facts : ∀ r : Bs, numOf r.reverse = numOf (stripR r.reverse) * 10 ^ (r.length - (stripR r.reverse).length) ∧ (stripR r.reverse).length ≤ r.length ∧ (stripR r.reverse).getLast? ≠ some 48 ∧ ∃ t, r.reverse = stripR r.reverse ++ t
  | [] => ⟨by simp [numOf, stripR, Lib.trimRightB], by simp [stripR, Lib.trimRightB], by simp [stripR, Lib.trimRightB], [], by simp [stripR, Lib.trimRightB]⟩
  | c :: r => by
    obtain ⟨h1, h2, h3, t, h4⟩ := stripR_facts r
    rw [List.reverse_cons, stripR_snoc]
    by_cases h : c = 48
    · rw [if_pos h]
      refine ⟨?_, by rw [List.length_cons]; omega, h3, t ++ [c], by rw [← List.append_assoc, ← h4]⟩
      rw [numOf_snoc, h1, List.length_cons, show r.length + 1 - (stripR r.reverse).length = r.length - (stripR r.reverse).length + 1 by omega, Int.pow_succ, h]
      have e : ((48 : UInt8).toNat : Int) - 48 = 0 := by decide
      rw [e]
      generalize (10 : Int) ^ (r.length - (stripR r.reverse).length) = T
      generalize numOf (stripR r.reverse) = Q
      grind
    · rw [if_neg h]
      refine ⟨by simp, by simp, ?_, [], by simp⟩
      rw [List.getLast?_concat]
      exact fun hh => h (Option.some.inj hh)
theorem stripR_num (l : Bs) : numOf l = numOf (stripR l) * 10 ^ (l.length - (stripR l).length) := by
  have := (stripR_facts l.reverse).1
  rwa [List.reverse_reverse, List.length_reverse] at this
theorem stripR_last (l : Bs) : (stripR l).getLast? ≠ some 48 := by
  have := (stripR_facts l.reverse).2.2.1
  rwa [List.reverse_reverse] at this
theorem stripR_pre (l : Bs) : ∃ t, l = stripR l ++ t := by
  have := (stripR_facts l.reverse).2.2.2
  rwa [List.reverse_reverse] at this
end Go.Proofs.YtfibmmmbpfnccaaGreatDoor
