/-
  PLAIN MATHEMATICS: marked texts: the whole text, its lines, what may be decoded.
-/
import Derived.Test.YtekihjffefokjaaDoorMkM
import Derived.Test.YtekihjffefokjaaDoorNumInt
namespace Go.Proofs.YtekihjffefokjaaDoor

def anyH : List MPart → Bool
  | [] => false
  | x :: l => x.hunk || anyH l
def nH : List MPart → Nat
  | [] => 0
  | x :: l => (if x.hunk = true then 1 else 0) + nH l
theorem anyH_nH : ∀ l : List MPart, anyH l = decide (0 < nH l)
  | [] => rfl
  | x :: l => by
    unfold anyH nH
    rw [anyH_nH l]
    cases x.hunk
    · simp
    · simp; omega
def headL : Bs := [35, 109, 97, 114, 107, 115, 32]
def headB (n : Nat) : Bs := headL ++ (Lib.decDigits n ++ [10])
def encM (l : List MPart) : Bs := (if anyH l = true then headB (widthM l) else []) ++ encGo (widthM l) l
def RightM (l : List MPart) : Prop := l.length ≤ 4096 ∧ okL true l
def GoodM (l : List MPart) : Prop := RightM l ∧ anyH l = true
theorem short_of (l : List MPart) : ∀ x ∈ l, Short (widthM l) x := fun x hx => widthM_in l x hx
theorem enc_len (n : Nat) : ∀ (l : List MPart) (a : Bool), okL a l → l.length ≤ (encGo n l).length
  | [], _, _ => Nat.zero_le _
  | x :: l, a, h => by
    unfold okL at h
    show l.length + 1 ≤ (partB n x ++ encGo n l).length
    rw [List.length_append]
    cases hx : x.hunk with
    | true =>
      rw [if_pos hx] at h
      have := enc_len n l true h.2
      have h2 : 1 ≤ (partB n x).length := by unfold partB; rw [if_pos hx]; simp [mrk]
      omega
    | false =>
      rw [if_neg (by rw [hx]; exact Bool.false_ne_true)] at h
      have := enc_len n l false h.2.2.2.2.2
      have h2 : 1 ≤ (partB n x).length := by
        rw [partB_text hx]
        have : x.text.length ≠ 0 := fun h0 => h.2.1 (List.length_eq_zero_iff.1 h0)
        omega
      omega
theorem enc_wide (n : Nat) : ∀ l : List MPart, anyH l = true → n ≤ (encGo n l).length
  | x :: l, h => by
    show n ≤ (partB n x ++ encGo n l).length
    rw [List.length_append]
    cases hx : x.hunk with
    | true =>
      have : n ≤ (partB n x).length := by
        unfold partB
        rw [if_pos hx, List.length_append, mrk_len]
        omega
      omega
    | false =>
      unfold anyH at h
      rw [hx, Bool.false_or] at h
      have := enc_wide n l h
      omega
theorem dig_no10 (n : Nat) : ∀ b ∈ headL ++ Lib.decDigits n, b ≠ 10 := by
  intro b hb
  rcases List.mem_append.1 hb with hb | hb
  · unfold headL at hb
    simp only [List.mem_cons, List.not_mem_nil, or_false] at hb
    rcases hb with rfl | rfl | rfl | rfl | rfl | rfl | rfl <;> decide
  · have h := dec_all n
    rw [List.all_eq_true] at h
    have := h b hb
    rintro rfl
    revert this
    decide
theorem cut_no {h : Bs} (hn : ∀ b ∈ h, b ≠ 10) (r : Bs) : cutL [10] (h ++ ([10] ++ r)) = some (h, r) := by
  refine cutL_at [10] r (by simp) h fun p r' hp he => ?_
  rw [List.drop_append_of_le_length (Nat.le_of_lt hp), List.drop_eq_getElem_cons hp] at he
  injection he with h1 h2
  exact hn _ (List.getElem_mem hp) h1
theorem enc_cut {l : List MPart} (h : anyH l = true) : cutL [10] (encM l) = some (headL ++ Lib.decDigits (widthM l), encGo (widthM l) l) := by
  have e : encM l = (headL ++ Lib.decDigits (widthM l)) ++ ([10] ++ encGo (widthM l) l) := by
    unfold encM headB
    rw [if_pos h]
    simp only [List.append_assoc]
  rw [e]
  exact cut_no (dig_no10 _) _
theorem parts_of {l : List MPart} (h : RightM l) : partsM (widthM l) ((encGo (widthM l) l).length + 1) (encGo (widthM l) l) = some l :=
  parts_enc _ (by have := widthM_7 l; omega) _ l true (by have := enc_len (widthM l) l true h.2; omega) h.2 (short_of l)
theorem enc_inj {l m : List MPart} (hl : GoodM l) (hm : GoodM m) (h : encM l = encM m) : l = m := by
  have h1 := enc_cut hl.2
  rw [h, enc_cut hm.2] at h1
  have h2 := Option.some.inj h1
  injection h2 with h3 h4
  have h5 := congrArg numOf (List.append_cancel_left h3)
  rw [dec_num, dec_num] at h5
  have hw : widthM l = widthM m := by omega
  have p1 := parts_of hl.1
  rw [hw] at p1 h4
  rw [← h4, parts_of hm.1] at p1
  exact (Option.some.inj p1).symm

/-- how many lines are so many of one sign -/
def cntL (c : UInt8) (n : Nat) : Bs → Bs → Nat
  | cur, [] => if cur = List.replicate n c then 1 else 0
  | cur, b :: r => if b = 10 then (if cur = List.replicate n c then 1 else 0) + cntL c n [] r else cntL c n (cur ++ [b]) r
theorem cntL_app (c : UInt8) (n : Nat) (r : Bs) : ∀ (t cur : Bs), cntL c n cur (t ++ 10 :: r) = cntL c n cur t + cntL c n [] r
  | [], cur => by
    show cntL c n cur (10 :: r) = _
    conv => lhs; rw [cntL, if_pos rfl]
    rfl
  | b :: t, cur => by
    rw [List.cons_append, cntL, cntL]
    split
    · rw [cntL_app c n r t [], Nat.add_assoc]
    · rw [cntL_app c n r t _]
theorem runGo_tail (r : Bs) : ∀ (t : Bs) (a : Bool), runM r ≤ runGo a (t ++ 10 :: r)
  | [], a => by
    show runM r ≤ runGo a (10 :: r)
    unfold runGo
    exact Nat.le_max_right _ _
  | b :: t, a => by
    rw [List.cons_append]
    unfold runGo
    exact Nat.le_trans (runGo_tail r t (b == 10)) (Nat.le_max_right _ _)
theorem run_rep (c : UInt8) (n : Nat) (r : Bs) (hc : isSgn c = true) (hn : 1 ≤ n) : n ≤ runM (List.replicate n c ++ r) := by
  obtain ⟨m, rfl⟩ : ∃ m, n = m + 1 := ⟨n - 1, by omega⟩
  have hl := lead_ge c r (m + 1)
  rw [List.replicate_succ, List.cons_append] at hl ⊢
  unfold runM runGo
  rw [Bool.true_and, if_pos hc]
  exact Nat.le_trans hl (Nat.le_max_left _ _)
theorem cntL_short (c : UInt8) (n : Nat) (hc : isSgn c = true) (hn : 1 ≤ n) : ∀ (t cur : Bs), runM (cur ++ t) < n → cntL c n cur t = 0
  | [], cur, h => by
    rw [cntL, if_neg]
    intro e
    rw [e] at h
    have := run_rep c n [] hc hn
    omega
  | b :: t, cur, h => by
    rw [cntL]
    split
    · rename_i hb
      subst hb
      rw [if_neg, Nat.zero_add]
      · refine cntL_short c n hc hn t [] ?_
        have := runGo_tail t cur true
        rw [List.nil_append]
        exact Nat.lt_of_le_of_lt this h
      · intro e
        rw [e] at h
        have := run_rep c n (10 :: t) hc hn
        omega
    · refine cntL_short c n hc hn t (cur ++ [b]) ?_
      rw [List.append_assoc]; exact h
theorem cntL_line (c : UInt8) (n : Nat) : ∀ (t cur : Bs), (∀ b ∈ t, b ≠ 10) → cntL c n cur t = if cur ++ t = List.replicate n c then 1 else 0
  | [], cur, _ => by rw [List.append_nil]; rfl
  | b :: t, cur, h => by
    rw [cntL, if_neg (h b (List.mem_cons_self ..)), cntL_line c n t _ (fun x hx => h x (List.mem_cons_of_mem _ hx)), List.append_assoc]; rfl
theorem isSgn_ne10 {c : UInt8} (h : isSgn c = true) : c ≠ 10 := by rintro rfl; cases h
theorem cntL_rep (c d : UInt8) (n : Nat) (hd : isSgn d = true) (hn : 1 ≤ n) : cntL c n [] (List.replicate n d) = if d = c then 1 else 0 := by
  rw [cntL_line c n _ _ (fun b hb => by rw [(List.mem_replicate.1 hb).2]; exact isSgn_ne10 hd), List.nil_append]
  by_cases h : d = c
  · rw [h, if_pos rfl, if_pos rfl]
  · rw [if_neg h, if_neg]
    intro e
    obtain ⟨m, rfl⟩ : ∃ m, n = m + 1 := ⟨n - 1, by omega⟩
    rw [List.replicate_succ, List.replicate_succ] at e
    injection e with e1 e2
    exact h e1
theorem cnt_enc (c : UInt8) (n : Nat) (hc : isSgn c = true) (hn : 1 ≤ n) : ∀ (l : List MPart) (a : Bool) (t : Bs), okL a l → (t = [] ∨ a = false) → runM t < n → (∀ x ∈ l, Short n x) → cntL c n [] (t ++ encGo n l) = nH l
  | [], _, t, _, _, ht, _ => by
    rw [show encGo n [] = [] from rfl, List.append_nil, cntL_short c n hc hn t [] ht]; rfl
  | x :: l, a, t, hok, hta, ht, hs => by
    unfold okL at hok
    have hsx := hs x (List.mem_cons_self ..)
    have hsl : ∀ y ∈ l, Short n y := fun y hy => hs y (List.mem_cons_of_mem _ hy)
    show cntL c n [] (t ++ (partB n x ++ encGo n l)) = _
    cases hx : x.hunk with
    | true =>
      rw [if_pos hx] at hok
      have h1 := fun (u r : Bs) (d : UInt8) (hu : runM u < n) (hd : isSgn d = true) => show cntL c n [] (u ++ (mrk d n ++ r)) = (if d = c then 1 else 0) + cntL c n [] r by
        unfold mrk
        rw [List.cons_append, cntL_app, cntL_short c n hc hn u [] hu, Nat.zero_add, List.append_assoc, List.singleton_append, cntL_app, cntL_rep c d n hd hn]
      rw [partB_hunk hx, h1 _ _ _ ht rfl, h1 _ _ _ hsx.2.2.1 rfl, h1 _ _ _ hsx.2.1 rfl, h1 _ _ _ hsx.2.2.2 rfl]
      have h2 := cnt_enc c n hc hn l true [] hok.2 (.inl rfl) (by show runGo true [] < n; unfold runGo; omega) hsl
      rw [List.nil_append] at h2
      rw [h2]
      show _ = (if x.hunk = true then 1 else 0) + nH l
      rw [if_pos hx]
      unfold isSgn at hc
      simp only [Bool.or_eq_true, beq_iff_eq] at hc
      rcases hc with ((rfl | rfl) | rfl) | rfl
      · rw [if_pos rfl, if_neg (by decide), if_neg (by decide), if_neg (by decide)]; omega
      · rw [if_neg (by decide), if_pos rfl, if_neg (by decide), if_neg (by decide)]; omega
      · rw [if_neg (by decide), if_neg (by decide), if_pos rfl, if_neg (by decide)]; omega
      · rw [if_neg (by decide), if_neg (by decide), if_neg (by decide), if_pos rfl]; omega
    | false =>
      rw [if_neg (by rw [hx]; exact Bool.false_ne_true)] at hok
      have hta' : t = [] := hta.resolve_right (by rw [hok.1]; exact Bool.noConfusion)
      subst hta'
      rw [partB_text hx, List.nil_append, cnt_enc c n hc hn l false x.text hok.2.2.2.2.2 (.inr rfl) hsx.1 hsl]
      show _ = (if x.hunk = true then 1 else 0) + nH l
      rw [if_neg (by rw [hx]; exact Bool.false_ne_true), Nat.zero_add]
theorem cnt_all (c : UInt8) (hc : isSgn c = true) (l : List MPart) (h : GoodM l) : cntL c (widthM l) [] (encM l) = nH l := by
  have h7 := widthM_7 l
  have e : encM l = (headL ++ Lib.decDigits (widthM l)) ++ 10 :: encGo (widthM l) l := by
    unfold encM headB
    rw [if_pos h.2]
    simp only [List.append_assoc, List.singleton_append]
  rw [e, cntL_app, cntL_line _ _ _ _ (dig_no10 _), List.nil_append, if_neg, Nat.zero_add]
  · have := cnt_enc c (widthM l) hc (by omega) l true [] h.1.2 (.inl rfl) (by show runGo true [] < _; unfold runGo; omega) (short_of l)
    rw [List.nil_append] at this
    exact this
  · intro e2
    obtain ⟨m, hm⟩ : ∃ m, widthM l = m + 1 := ⟨widthM l - 1, by omega⟩
    rw [hm, List.replicate_succ] at e2
    unfold headL at e2
    rw [List.cons_append] at e2
    injection e2 with e3 e4
    rw [← e3] at hc
    cases hc
/-- a marked text has a line of its width -/
theorem run_enc (n : Nat) (hn : 1 ≤ n) : ∀ (l : List MPart) (h : Bs) (a : Bool), anyH l = true → n ≤ runGo a (h ++ encGo n l)
  | x :: l, h, a, ha => by
    show n ≤ runGo a (h ++ (partB n x ++ encGo n l))
    cases hx : x.hunk with
    | true =>
      rw [partB_hunk hx]
      have hd := List.drop_left (l₁ := h) (l₂ := mrk 60 n ++ (x.s1 ++ (mrk 124 n ++ (x.s0 ++ (mrk 61 n ++ (x.s2 ++ (mrk 62 n ++ encGo n l)))))))
      conv at hd => rhs; unfold mrk; rw [List.cons_append, List.append_assoc]
      exact run_in 60 n _ rfl hn _ a h.length hd
    | false =>
      unfold anyH at ha
      rw [hx, Bool.false_or] at ha
      rw [← List.append_assoc]
      exact run_enc n hn l _ a ha
theorem run_encM (l : List MPart) (h : anyH l = true) : widthM l ≤ runM (encM l) := by
  unfold encM
  exact run_enc _ (by have := widthM_7 l; omega) l _ true h
end Go.Proofs.YtekihjffefokjaaDoor
