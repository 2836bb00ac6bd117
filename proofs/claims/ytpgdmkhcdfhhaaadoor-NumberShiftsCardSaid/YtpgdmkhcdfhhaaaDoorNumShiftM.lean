/-
  PLAIN MATHEMATICS: digits with noughts behind a point, with the point moved, with noughts and exponents: the same number.
-/
import Derived.Test.YtpgdmkhcdfhhaaaDoorNumBackM
namespace Go.Proofs.YtpgdmkhcdfhhaaaDoor
open Go.RowKit

/-- a text that splits so is that number -/
theorem parse_split {t W F pw : Bs} {dn : Bool} {L S : Bs} (E : Int) (hs : splitM t = some ⟨false, W, F, dn, pw⟩) (hl : W.length + F.length ≤ 1000) (h9 : (stripL pw).length ≤ 9)
    (hL : stripL (W ++ F) = L) (hS : stripR L = S) (h0 : S ≠ []) (hd : S.all isDig = true) (hh : S.head? ≠ some 48) (hla : S.getLast? ≠ some 48) (hsl : S.length ≤ 1000)
    (hE : (if dn = true then - numOf (stripL pw) else numOf (stripL pw)) - F.length + L.length - S.length = E) (he1 : -1000000 ≤ E) (he2 : E ≤ 1000000) : parseM t = (⟨false, S, E⟩, 0) := by
  have hn : numM false W F dn (stripL pw) = ⟨false, S, E⟩ := by
    unfold numM
    simp only
    rw [hL, hS, if_neg h0]
    congr 1
  have hr : (Dec.mk false S E).right = true := by
    have hp := List.length_pos_iff.2 h0
    unfold Dec.right
    rw [if_neg (fun h => h0 (congrArg Dec.digits h)), if_neg, if_neg]
    · exact decide_eq_true ⟨he1, he2⟩
    · unfold Dec.nought0; exact fun h => h.elim hh hla
    · unfold Dec.bad
      rintro (h | h | h)
      · simp only at h; omega
      · simp only at h; omega
      · simp only at h; rw [hd] at h; cases h
  unfold parseM
  rw [hs]
  simp only
  rw [if_neg (by omega), if_neg (by omega), hn, if_pos hr]
theorem parse_zero {t W F pw : Bs} {dn : Bool} (hs : splitM t = some ⟨false, W, F, dn, pw⟩) (hl : W.length + F.length ≤ 1000) (h9 : (stripL pw).length ≤ 9) (hS : stripR (stripL (W ++ F)) = []) : parseM t = (.zero, 0) := by
  have hn : numM false W F dn (stripL pw) = .zero := by
    unfold numM
    simp only
    rw [if_pos hS]
  unfold parseM
  rw [hs]
  simp only
  rw [if_neg (by omega), if_neg (by omega), hn, if_pos (by rfl)]
def EndsOk (T : Bs) : Prop := T = [] ∨ ∃ c r, T = c :: r ∧ isDig c = false ∧ c ≠ 46
theorem ends_tw {T : Bs} (h : EndsOk T) : T.takeWhile isDig = [] ∧ T.dropWhile isDig = T := by
  rcases h with rfl | ⟨c, r, rfl, h, _⟩
  · exact ⟨rfl, rfl⟩
  · exact ⟨by rw [List.takeWhile_cons, if_neg (by rw [h]; simp)], by rw [List.dropWhile_cons, if_neg (by rw [h]; simp)]⟩
theorem splitM_pos (D T : Bs) (h0 : D ≠ []) (hd : D.all isDig = true) : splitM (D ++ T) = splitWhole false (D ++ T) := by
  unfold splitM
  rw [if_neg (by rw [head_app h0, head_no hd 45 (by rfl)]; simp)]
theorem split_whole (D T : Bs) (h0 : D ≠ []) (hd : D.all isDig = true) (hh : D = [48] ∨ D.head? ≠ some 48) (hT : EndsOk T) :
    splitM (D ++ T) = splitTail ⟨false, D, [], false, []⟩ T := by
  rw [splitM_pos D T h0 hd]
  obtain ⟨e1, e2⟩ := tw_append T hd
  obtain ⟨f1, f2⟩ := ends_tw hT
  unfold splitWhole
  simp only
  rw [e1, e2, f1, f2, List.append_nil, if_neg]
  · unfold splitFrac
    rcases hT with rfl | ⟨c, r, rfl, _, hc⟩
    · rfl
    · split
      · rename_i heq; injection heq with heq _; exact absurd heq hc
      · rfl
  · rintro (h | h)
    · exact h0 h
    · rcases hh with hh | hh
      · rw [hh] at h; simp at h
      · exact hh h.2
theorem split_bad (D T : Bs) (hd : D.all isDig = true) (h1 : 1 < D.length) (hh : D.head? = some 48) (hT : EndsOk T) : splitM (D ++ T) = none := by
  have h0 : D ≠ [] := fun h => by rw [h] at h1; simp at h1
  rw [splitM_pos D T h0 hd]
  obtain ⟨e1, e2⟩ := tw_append T hd
  obtain ⟨f1, f2⟩ := ends_tw hT
  unfold splitWhole
  simp only
  rw [e1, f1, List.append_nil, if_pos (.inr ⟨h1, hh⟩)]
theorem split_frac (D F T : Bs) (h0 : D ≠ []) (hd : D.all isDig = true) (hh : D = [48] ∨ D.head? ≠ some 48) (hF0 : F ≠ []) (hF : F.all isDig = true) (hT : EndsOk T) :
    splitM (D ++ 46 :: (F ++ T)) = splitTail ⟨false, D, F, false, []⟩ T := by
  rw [splitM_pos D _ h0 hd]
  obtain ⟨e1, e2⟩ := tw_append (46 :: (F ++ T)) hd
  obtain ⟨g1, g2⟩ := tw_append T hF
  obtain ⟨f1, f2⟩ := ends_tw hT
  have k1 : (46 :: (F ++ T)).takeWhile isDig = [] := rfl
  have k2 : (46 :: (F ++ T)).dropWhile isDig = 46 :: (F ++ T) := rfl
  unfold splitWhole
  simp only
  rw [e1, e2, k1, k2, List.append_nil, if_neg]
  · unfold splitFrac
    simp only
    rw [g1, g2, f1, f2, List.append_nil, if_neg hF0]
  · rintro (h | h)
    · exact h0 h
    · rcases hh with hh | hh
      · rw [hh] at h; simp at h
      · exact hh h.2
theorem fin_dec (W F : Bs) (dn : Bool) (u : Nat) : splitFin ⟨false, W, F, false, []⟩ dn (Lib.decDigits u) = some ⟨false, W, F, dn, Lib.decDigits u⟩ := by
  unfold splitFin
  rw [if_pos ⟨dec_ne u, dec_all u⟩]
theorem tail_itoa (W F : Bs) (n : Int) : splitTail ⟨false, W, F, false, []⟩ (101 :: Lib.itoa n) = some ⟨false, W, F, decide (n < 0), Lib.decDigits n.natAbs⟩ := by
  show splitExp _ (Lib.itoa n) = _
  unfold Lib.itoa
  by_cases h : n < 0
  · rw [if_pos h, decide_eq_true h]
    unfold splitExp
    rw [if_pos (by rfl)]
    exact fin_dec _ _ _ _
  · rw [if_neg h, decide_eq_false h, show n.toNat = n.natAbs by omega]
    unfold splitExp
    rw [if_neg (by rw [head_no (dec_all _) 45 (by rfl)]; simp), if_neg (by rw [head_no (dec_all _) 43 (by rfl)]; simp)]
    exact fin_dec _ _ _ _
theorem tail_plus (W F : Bs) (u : Nat) : splitTail ⟨false, W, F, false, []⟩ (69 :: 43 :: Lib.itoa (u : Int)) = some ⟨false, W, F, false, Lib.decDigits u⟩ := by
  show splitExp _ (43 :: Lib.itoa (u : Int)) = _
  unfold splitExp
  rw [if_neg (by simp), if_pos (by rfl)]
  have e : Lib.itoa (u : Int) = Lib.decDigits u := by unfold Lib.itoa; rw [if_neg (by omega)]; rfl
  rw [List.tail_cons, e]
  exact fin_dec _ _ _ _
theorem stripL_dec9 (u : Nat) (hu : u ≤ 999999) : (stripL (Lib.decDigits u)).length ≤ 9 ∧ numOf (stripL (Lib.decDigits u)) = u := by
  by_cases h : u = 0
  · subst h
    rw [dec_small (by omega)]
    exact ⟨by decide, by decide⟩
  · rw [stripL_dec u (by omega), dec_num]
    exact ⟨Nat.le_trans (dec_len 6 u (by omega) (by omega)) (by omega), rfl⟩
theorem stripR_zeros (a : Bs) (k : Nat) : stripR (a ++ List.replicate k 48) = stripR a := by
  induction k with
  | zero => simp
  | succ k ih => rw [List.replicate_succ', ← List.append_assoc, stripR_snoc, if_pos rfl, ih]
/-- the six texts of the law, of digits that do not begin with a nought -/
theorem shifts (l : Bs) (i : Nat) (h0 : l ≠ []) (hd : l.all isDig = true) (hh : l.head? ≠ some 48) (hl : l.length ≤ 400) (hi : i ≤ 255) :
    ∃ S E E2, parseM l = (⟨false, S, E⟩, 0) ∧ parseM (l ++ [46, 48, 48, 48]) = (⟨false, S, E⟩, 0) ∧ parseM (([48, 46] ++ l ++ [101]) ++ Lib.itoa (l.length : Int)) = (⟨false, S, E⟩, 0) ∧
      parseM (l ++ [48, 48, 48, 101, 45, 51]) = (⟨false, S, E⟩, 0) ∧ parseM ((l ++ [69, 43]) ++ Lib.itoa (i : Int)) = (⟨false, S, E2⟩, 0) ∧ parseM ((l ++ [48, 101]) ++ Lib.itoa ((i : Int) - 1)) = (⟨false, S, E2⟩, 0) := by
  have hL0 : stripL l = l := stripL_id hh
  have hS0 := stripR_ne h0 hh
  obtain ⟨t, ht⟩ := stripR_pre l
  have hla := stripR_last l
  have hlen := congrArg List.length ht
  rw [List.length_append] at hlen
  have hSd : (stripR l).all isDig = true := by
    have := hd
    rw [ht, List.all_append, Bool.and_eq_true] at this
    exact this.1
  have hSh : (stripR l).head? ≠ some 48 := by
    have := hh
    rw [ht, head_app hS0] at this
    exact this
  have hz : ∀ k, stripR (l ++ List.replicate k 48) = stripR l := stripR_zeros l
  have hLk : ∀ k, stripL (l ++ List.replicate k 48) = l ++ List.replicate k 48 := fun k => stripL_id (by rw [head_app h0]; exact hh)
  have hdk : ∀ k, (l ++ List.replicate k 48).all isDig = true := fun k => by rw [List.all_append, hd, replicate_dig]; rfl
  have hne : ∀ k, l ++ List.replicate k 48 ≠ [] := fun k h => h0 (List.append_eq_nil_iff.1 h).1
  have hhk : ∀ k, (l ++ List.replicate k 48).head? ≠ some 48 := fun k => by rw [head_app h0]; exact hh
  generalize hS : stripR l = S at *
  have hSl : S.length ≤ 1000 := by omega
  refine ⟨S, l.length - S.length, i + l.length - S.length, ?_, ?_, ?_, ?_, ?_, ?_⟩
  · have e := split_whole l [] h0 hd (.inr hh) (.inl rfl)
    rw [List.append_nil] at e
    exact parse_split (W := l) (F := []) (pw := []) (dn := false) (L := l) (S := S) _ e (by simp; omega) (by simp [stripL, Lib.trimLeftB]) (by rw [List.append_nil]; exact hL0) hS hS0 hSd hSh hla hSl (by simp [stripL, Lib.trimLeftB, numOf]) (by omega) (by omega)
  · have e := split_frac l [48, 48, 48] [] h0 hd (.inr hh) (by simp) (by rfl) (.inl rfl)
    rw [List.append_nil] at e
    exact parse_split (W := l) (F := [48, 48, 48]) (pw := []) (dn := false) (L := l ++ [48, 48, 48]) (S := S) _ e (by simp; omega) (by simp [stripL, Lib.trimLeftB]) (hLk 3) (hz 3) hS0 hSd hSh hla hSl (by simp [stripL, Lib.trimLeftB, numOf]; omega) (by omega) (by omega)
  · have e := split_frac [48] l (101 :: Lib.itoa (l.length : Int)) (by simp) (by rfl) (.inl rfl) h0 hd (.inr ⟨_, _, rfl, rfl, by decide⟩)
    rw [tail_itoa] at e
    obtain ⟨k1, k2⟩ := stripL_dec9 l.length (by omega)
    have et : ([48, 46] ++ l ++ [101]) ++ Lib.itoa (l.length : Int) = [48] ++ 46 :: (l ++ (101 :: Lib.itoa (l.length : Int))) := by simp
    rw [et]
    have en : (l.length : Int).natAbs = l.length := by omega
    rw [en, decide_eq_false (by omega)] at e
    exact parse_split (L := l) (S := S) _ e (by simp; omega) k1 (by show stripL (48 :: l) = l; rw [stripL_cons, if_pos rfl]; exact hL0) hS hS0 hSd hSh hla hSl (by rw [k2, if_neg (by simp)]; omega) (by omega) (by omega)
  · have e := split_whole (l ++ List.replicate 3 48) [101, 45, 51] (hne 3) (hdk 3) (.inr (hhk 3)) (.inr ⟨_, _, rfl, rfl, by decide⟩)
    have et : l ++ [48, 48, 48, 101, 45, 51] = l ++ List.replicate 3 48 ++ [101, 45, 51] := by simp [List.replicate]
    rw [et]
    have e2 : splitTail ⟨false, l ++ List.replicate 3 48, [], false, []⟩ [101, 45, 51] = some ⟨false, l ++ List.replicate 3 48, [], true, [51]⟩ := rfl
    rw [e2] at e
    exact parse_split (L := l ++ List.replicate 3 48) (S := S) _ e (by simp; omega) (by decide) (by rw [List.append_nil]; exact hLk 3) (hz 3) hS0 hSd hSh hla hSl (by rw [if_pos rfl, show numOf (stripL [51]) = 3 by decide]; simp; omega) (by omega) (by omega)
  · have e := split_whole l (69 :: 43 :: Lib.itoa (i : Int)) h0 hd (.inr hh) (.inr ⟨_, _, rfl, rfl, by decide⟩)
    rw [tail_plus] at e
    obtain ⟨k1, k2⟩ := stripL_dec9 i (by omega)
    have et : (l ++ [69, 43]) ++ Lib.itoa (i : Int) = l ++ (69 :: 43 :: Lib.itoa (i : Int)) := by simp
    rw [et]
    exact parse_split (L := l) (S := S) _ e (by simp; omega) k1 (by rw [List.append_nil]; exact hL0) hS hS0 hSd hSh hla hSl (by rw [k2, if_neg (by simp)]; simp) (by omega) (by omega)
  · have e := split_whole (l ++ List.replicate 1 48) (101 :: Lib.itoa ((i : Int) - 1)) (hne 1) (hdk 1) (.inr (hhk 1)) (.inr ⟨_, _, rfl, rfl, by decide⟩)
    rw [tail_itoa] at e
    obtain ⟨k1, k2⟩ := stripL_dec9 ((i : Int) - 1).natAbs (by omega)
    have et : (l ++ [48, 101]) ++ Lib.itoa ((i : Int) - 1) = l ++ List.replicate 1 48 ++ (101 :: Lib.itoa ((i : Int) - 1)) := by simp [List.replicate]
    rw [et]
    have hx : (if decide ((i : Int) - 1 < 0) = true then - numOf (stripL (Lib.decDigits ((i : Int) - 1).natAbs)) else numOf (stripL (Lib.decDigits ((i : Int) - 1).natAbs))) = (i : Int) - 1 := by
      rw [k2]
      by_cases hn : (i : Int) - 1 < 0
      · rw [decide_eq_true hn, if_pos rfl]; omega
      · rw [decide_eq_false hn, if_neg (by simp)]; omega
    exact parse_split (L := l ++ List.replicate 1 48) (S := S) _ e (by simp; omega) k1 (by rw [List.append_nil]; exact hLk 1) (hz 1) hS0 hSd hSh hla hSl (by rw [hx]; simp; omega) (by omega) (by omega)
theorem shifts0 (i : Nat) (hi : i ≤ 255) :
    parseM [48] = (.zero, 0) ∧ parseM ([48] ++ [46, 48, 48, 48]) = (.zero, 0) ∧ parseM (([48, 46] ++ [48] ++ [101]) ++ Lib.itoa (1 : Int)) = (.zero, 0) ∧
      parseM ([48] ++ [48, 48, 48, 101, 45, 51]) = (.zero, 2) ∧ parseM (([48] ++ [69, 43]) ++ Lib.itoa (i : Int)) = (.zero, 0) ∧ parseM (([48] ++ [48, 101]) ++ Lib.itoa ((i : Int) - 1)) = (.zero, 2) := by
  refine ⟨by kernel_rfl, by kernel_rfl, by kernel_rfl, by kernel_rfl, ?_, ?_⟩
  · have e := split_whole [48] (69 :: 43 :: Lib.itoa (i : Int)) (by simp) (by rfl) (.inl rfl) (.inr ⟨_, _, rfl, rfl, by decide⟩)
    rw [tail_plus] at e
    exact parse_zero (t := [48] ++ (69 :: 43 :: Lib.itoa (i : Int))) e (by simp) (stripL_dec9 i (by omega)).1 (by rfl)
  · have e := split_bad [48, 48] (101 :: Lib.itoa ((i : Int) - 1)) (by rfl) (by simp) (by rfl) (.inr ⟨_, _, rfl, rfl, by decide⟩)
    have e2 : splitM (([48] ++ [48, 101]) ++ Lib.itoa ((i : Int) - 1)) = none := e
    unfold parseM
    rw [e2]
end Go.Proofs.YtpgdmkhcdfhhaaaDoor
