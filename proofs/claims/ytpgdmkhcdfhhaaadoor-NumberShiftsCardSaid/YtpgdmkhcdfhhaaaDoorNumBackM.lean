/-
  PLAIN MATHEMATICS: a right number's text is parsed as that number; an int's number is that int.
-/
import Derived.Test.YtpgdmkhcdfhhaaaDoorNumIntM
import Derived.Test.YtpgdmkhcdfhhaaaDoorNumText
import Derived.Test.YtpgdmkhcdfhhaaaDoorNumOrd
namespace Go.Proofs.YtpgdmkhcdfhhaaaDoor
open Go.RowKit

theorem dec_len : ∀ (k u : Nat), u < 10 ^ k → 0 < k → (Lib.decDigits u).length ≤ k := by
  intro k
  induction k with
  | zero => intro u _ h; omega
  | succ k ih =>
    intro u hu _
    by_cases hs : u < 10
    · rw [dec_small hs]; simp
    · rw [dec_great hs, List.length_append]
      have hk : 0 < k := by
        cases k with
        | zero => rw [Nat.pow_one] at hu; omega
        | succ k => omega
      have := ih (u / 10) (by rw [Nat.pow_succ] at hu; omega) hk
      simp only [List.length_cons, List.length_nil]
      omega
theorem stripL_id {l : Bs} (h : l.head? ≠ some 48) : stripL l = l := by
  cases l with
  | nil => rfl
  | cons c l => rw [stripL_cons, if_neg (fun hc => h (by rw [hc]; rfl))]
theorem stripR_id {l : Bs} (h : l.getLast? ≠ some 48) : stripR l = l := by
  cases hl : l with
  | nil => rfl
  | cons c r =>
    rw [← hl]
    have hne : l ≠ [] := by rw [hl]; simp
    have e : l = l.dropLast ++ [l.getLast hne] := (List.dropLast_concat_getLast hne).symm
    rw [e, stripR_snoc, if_neg]
    intro hc
    exact h (by rw [List.getLast?_eq_some_getLast hne, hc])
theorem right_parts {d : Dec} (h : d.right = true) (hz : d ≠ .zero) : d.digits ≠ [] ∧ d.digits.all isDig = true ∧ d.digits.head? ≠ some 48 ∧ d.digits.getLast? ≠ some 48 ∧ d.digits.length ≤ 1000 ∧ -1000000 ≤ d.exp ∧ d.exp ≤ 1000000 := by
  unfold Dec.right at h
  rw [if_neg hz] at h
  split at h
  · cases h
  · rename_i hb
    split at h
    · cases h
    · rename_i hn
      have he := of_decide_eq_true h
      unfold Dec.bad at hb
      unfold Dec.nought0 at hn
      simp only [not_or] at hb hn
      refine ⟨fun h0 => by rw [h0] at hb; simp at hb, ?_, hn.1, hn.2, by omega, he.1, he.2⟩
      cases hx : d.digits.all isDig with
      | true => rfl
      | false => exact absurd hx hb.2.2
theorem not_dig {c : UInt8} {l : Bs} (h : l.all isDig = true) (hl : l.head? = some c) (hc : isDig c = false) : False := by
  cases l with
  | nil => cases hl
  | cons d l =>
    simp only [List.head?_cons, Option.some.injEq] at hl
    rw [List.all_cons, hl, hc] at h
    cases h
theorem head_no {l : Bs} (h : l.all isDig = true) (c : UInt8) (hc : isDig c = false) : (l.head? == some c) = false := by
  cases hb : (l.head? == some c) with
  | false => rfl
  | true => exact (not_dig h (by simpa using hb) hc).elim
theorem head_app {l : Bs} (h0 : l ≠ []) (m : Bs) : (l ++ m).head? = l.head? := by
  cases l with
  | nil => exact absurd rfl h0
  | cons c l => rfl
/-- a literal of digits, and of an exponent behind it or none -/
theorem split_text (neg : Bool) (D T : Bs) (h0 : D ≠ []) (hd : D.all isDig = true) (hh : D.head? ≠ some 48) (hT : T = [] ∨ ∃ r, T = 101 :: r) :
    splitM ((if neg = true then [45] else []) ++ D ++ T) = splitTail ⟨neg, D, [], false, []⟩ T := by
  have key : splitWhole neg (D ++ T) = splitTail ⟨neg, D, [], false, []⟩ T := by
    obtain ⟨e1, e2⟩ := tw_append T hd
    have f : T.takeWhile isDig = [] ∧ T.dropWhile isDig = T := by
      rcases hT with rfl | ⟨r, rfl⟩
      · exact ⟨rfl, rfl⟩
      · exact ⟨rfl, rfl⟩
    unfold splitWhole
    simp only
    rw [e1, e2, f.1, f.2, List.append_nil, if_neg]
    · unfold splitFrac
      rcases hT with rfl | ⟨r, rfl⟩
      · rfl
      · rfl
    · rintro (h | h)
      · exact h0 h
      · exact hh h.2
  unfold splitM
  cases neg with
  | true =>
    rw [if_pos rfl]
    rw [if_pos (by rfl)]
    exact key
  | false =>
    have e : (if false = true then ([45] : Bs) else []) ++ D ++ T = D ++ T := by simp
    rw [e, if_neg (by rw [head_app h0, head_no hd 45 (by rfl)]; simp)]
    exact key
theorem numM_of (neg : Bool) (D : Bs) (down : Bool) (x : Bs) (h0 : D ≠ []) (hh : D.head? ≠ some 48) (hl : D.getLast? ≠ some 48) :
    numM neg D [] down x = ⟨neg, D, if down = true then - numOf x else numOf x⟩ := by
  unfold numM
  simp only [List.append_nil]
  rw [stripL_id hh, stripR_id hl, if_neg h0]
  congr 1
  simp only [List.length_nil]
  omega
theorem parseM_textM (d : Dec) (h : d.right = true) : parseM (textM d) = (d, 0) := by
  by_cases hz : d = .zero
  · subst hz; kernel_rfl
  · obtain ⟨h0, hd, hh, hl, hn, he1, he2⟩ := right_parts h hz
    obtain ⟨neg, D, E⟩ := d
    simp only at h0 hd hh hl hn he1 he2
    have ht : textM ⟨neg, D, E⟩ = (if neg = true then [45] else []) ++ D ++ (if E ≠ 0 then 101 :: Lib.itoa E else []) := by
      unfold textM
      rw [if_pos h, if_neg hz]
    have hs := split_text neg D (if E ≠ 0 then 101 :: Lib.itoa E else []) h0 hd hh (by split; exact .inr ⟨_, rfl⟩; exact .inl rfl)
    rw [← ht] at hs
    unfold parseM
    rw [hs]
    by_cases hE : E = 0
    · subst hE
      rw [if_neg (by simp)]
      show (if 1000 < D.length + 0 then _ else _) = _
      rw [if_neg (by omega)]
      show (if 9 < (stripL []).length then _ else _) = _
      rw [show stripL [] = [] from rfl, if_neg (by simp)]
      show (if (numM neg D [] false []).right = true then (numM neg D [] false [], (0 : Int)) else _) = _
      rw [numM_of neg D false [] h0 hh hl]
      rw [if_pos]
      · rfl
      · exact h
    · rw [if_pos hE]
      have hx : ∃ (dn : Bool) (u : Nat), 0 < u ∧ u ≤ 1000000 ∧ E = (if dn = true then -(u : Int) else (u : Int)) ∧ splitTail ⟨neg, D, [], false, []⟩ (101 :: Lib.itoa E) = some ⟨neg, D, [], dn, Lib.decDigits u⟩ := by
        have hfin : ∀ (dn : Bool) (u : Nat), splitFin ⟨neg, D, [], false, []⟩ dn (Lib.decDigits u) = some ⟨neg, D, [], dn, Lib.decDigits u⟩ := fun dn u => by
          unfold splitFin
          rw [if_pos ⟨dec_ne u, dec_all u⟩]
        by_cases hneg : E < 0
        · refine ⟨true, E.natAbs, by omega, by omega, by rw [if_pos rfl]; omega, ?_⟩
          have e : Lib.itoa E = 45 :: Lib.decDigits E.natAbs := by unfold Lib.itoa; rw [if_pos hneg]
          rw [e]
          show splitExp _ (45 :: Lib.decDigits E.natAbs) = _
          unfold splitExp
          rw [if_pos (by rfl)]
          exact hfin _ _
        · refine ⟨false, E.natAbs, by omega, by omega, by rw [if_neg (by simp)]; omega, ?_⟩
          have e : Lib.itoa E = Lib.decDigits E.natAbs := by unfold Lib.itoa; rw [if_neg hneg, show E.toNat = E.natAbs by omega]
          rw [e]
          show splitExp _ (Lib.decDigits E.natAbs) = _
          unfold splitExp
          rw [if_neg (by rw [head_no (dec_all _) 45 (by rfl)]; simp), if_neg (by rw [head_no (dec_all _) 43 (by rfl)]; simp)]
          exact hfin _ _
      obtain ⟨dn, u, hu0, hu1, hEu, hsp⟩ := hx
      rw [hsp]
      show (if 1000 < D.length + 0 then _ else _) = _
      rw [if_neg (by omega)]
      show (if 9 < (stripL (Lib.decDigits u)).length then _ else _) = _
      rw [stripL_dec u hu0, if_neg (by have := dec_len 7 u (by omega) (by omega); omega)]
      show (if (numM neg D [] dn (Lib.decDigits u)).right = true then (numM neg D [] dn (Lib.decDigits u), (0 : Int)) else _) = _
      rw [numM_of neg D dn _ h0 hh hl, dec_num, ← hEu, if_pos h]
theorem parseM_right {l : Bs} {m : Dec} (h : parseM l = (m, 0)) : m.right = true := by
  unfold parseM at h
  split at h
  · injection h with _ h; cases h
  · split at h
    · injection h with _ h; cases h
    · split at h
      · injection h with _ h; cases h
      · split at h
        · rename_i hr; injection h with h _; rw [← h]; exact hr
        · injection h with _ h; cases h
theorem textM_ne {d : Dec} (h : d.right = true) : textM d ≠ [] := by
  unfold textM
  rw [if_pos h]
  by_cases hz : d = .zero
  · rw [if_pos hz]; simp
  · rw [if_neg hz]
    intro h2
    have := (right_parts h hz).1
    simp only [List.append_eq_nil_iff] at h2
    exact this h2.1.2
theorem numOf_zeros (a : Bs) (k : Nat) : numOf (a ++ List.replicate k 48) = numOf a * 10 ^ k := by
  induction k with
  | zero => simp
  | succ k ih =>
    rw [List.replicate_succ', ← List.append_assoc, numOf_snoc, ih, Int.pow_succ, Int.mul_assoc]
    simp
theorem intM_ofM (i : Int) (h0 : -9223372036854775808 ≤ i) (h1 : i ≤ 9223372036854775807) : intM (ofM i) = (i, true) := by
  by_cases hz : i = 0
  · subst hz; rw [ofM_zero]; kernel_rfl
  · have hl : (Lib.decDigits i.natAbs).length ≤ 19 := dec_len 19 _ (by omega) (by omega)
    have hr : (ofM i).right = true := numM_right _ _ (by omega)
    obtain ⟨hne, he⟩ := numM_dec (decide (i < 0)) i.natAbs (by omega)
    have hnum := stripR_num (Lib.decDigits i.natAbs)
    rw [dec_num] at hnum
    have hle := stripR_le (Lib.decDigits i.natAbs)
    have he2 : ofM i = ⟨decide (i < 0), stripR (Lib.decDigits i.natAbs), ((Lib.decDigits i.natAbs).length : Int) - (stripR (Lib.decDigits i.natAbs)).length⟩ := he
    unfold intM
    rw [hr, he2]
    simp only
    rw [if_pos ⟨trivial, by omega, by omega⟩, numOf_zeros, show (((Lib.decDigits i.natAbs).length : Int) - (stripR (Lib.decDigits i.natAbs)).length).toNat = (Lib.decDigits i.natAbs).length - (stripR (Lib.decDigits i.natAbs)).length by omega, ← hnum]
    by_cases hn : i < 0
    · rw [decide_eq_true hn, intV_t, if_pos (by omega)]
      congr 1; omega
    · rw [decide_eq_false hn, intV_f, if_pos (by omega)]
      congr 1; omega
end Go.Proofs.YtpgdmkhcdfhhaaaDoor
