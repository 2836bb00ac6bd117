/-
  PLAIN MATHEMATICS: one text in a line just of one value (PrintApart).
-/
import Derived.Test.YtnlkokgekjlmmaaGreatDoorPrK
namespace Go.Proofs.YtnlkokgekjlmmaaGreatDoor
open Go.RowKit

/-! ### what begins how -/
/-- what may stand behind a value -/
def Dlm (r : Bs) : Prop := ∀ c t, r = c :: t → c = 44 ∨ c = 93 ∨ c = 125 ∨ c = 58
/-- no such sign, and no sign with which a value of another kind begins -/
def numC (c : UInt8) : Bool := c == 45 || c == 101 || isDig c
theorem dlm_nil : Dlm [] := fun c t h => by cases h
theorem dlm_cons {c : UInt8} (t : Bs) (h : c = 44 ∨ c = 93 ∨ c = 125 ∨ c = 58) : Dlm (c :: t) := fun d u e => by
  injection e with e1 _
  rw [← e1]; exact h
theorem numC_not {c : UInt8} (h : numC c = true) : c ≠ 44 ∧ c ≠ 93 ∧ c ≠ 125 ∧ c ≠ 58 ∧ c ≠ 110 ∧ c ≠ 116 ∧ c ≠ 102 ∧ c ≠ 34 ∧ c ≠ 91 ∧ c ≠ 123 := by
  refine ⟨?_, ?_, ?_, ?_, ?_, ?_, ?_, ?_, ?_, ?_⟩ <;> (rintro rfl; revert h; decide)
/-- two runs of such signs, each with an end behind it -/
theorem run_uniq : ∀ (t t' r r' : Bs), t.all numC = true → t'.all numC = true → Dlm r → Dlm r' → t ++ r = t' ++ r' → t = t' ∧ r = r'
  | [], [], r, r', _, _, _, _, h => ⟨rfl, h⟩
  | [], c :: t', r, r', _, h2, hr, _, h => by
    rw [List.all_cons, Bool.and_eq_true] at h2
    have h3 := numC_not h2.1
    rcases hr c (t' ++ r') h with h | h | h | h
    · exact absurd h h3.1
    · exact absurd h h3.2.1
    · exact absurd h h3.2.2.1
    · exact absurd h h3.2.2.2.1
  | c :: t, [], r, r', h1, _, _, hr, h => by
    rw [List.all_cons, Bool.and_eq_true] at h1
    have h3 := numC_not h1.1
    rcases hr c (t ++ r) h.symm with h | h | h | h
    · exact absurd h h3.1
    · exact absurd h h3.2.1
    · exact absurd h h3.2.2.1
    · exact absurd h h3.2.2.2.1
  | c :: t, d :: t', r, r', h1, h2, hr, hr', h => by
    rw [List.all_cons, Bool.and_eq_true] at h1 h2
    injection h with e1 e2
    obtain ⟨e3, e4⟩ := run_uniq t t' r r' h1.2 h2.2 hr hr' e2
    exact ⟨by rw [e1, e3], e4⟩
theorem dig_numC {l : Bs} (h : l.all isDig = true) : l.all numC = true := by
  rw [List.all_eq_true] at h ⊢
  intro c hc
  unfold numC
  rw [h c hc, Bool.or_true]
theorem itoa_numC (n : Int) : (Lib.itoa n).all numC = true := by
  rw [itoa_of]
  split
  · rw [List.all_cons, Bool.and_eq_true]
    exact ⟨by decide, dig_numC (dec_all _)⟩
  · exact dig_numC (dec_all _)
theorem dec_run {t : Bs} (h : decM t = true) : t ≠ [] ∧ t.all numC = true := by
  refine ⟨fun e => ?_, ?_⟩
  · rw [e, decM_nil] at h; cases h
  · unfold decM at h
    simp only [Bool.and_eq_true, decide_eq_true_eq] at h
    rw [← h.2]
    generalize (parseM t).1 = d
    unfold textM
    split
    · rename_i hr
      split
      · decide
      · rw [List.all_append, List.all_append, Bool.and_eq_true, Bool.and_eq_true]
        refine ⟨⟨?_, ?_⟩, ?_⟩
        · split <;> decide
        · rename_i hz
          exact dig_numC (right_dig hr hz).2.1
        · split
          · rw [List.all_cons, Bool.and_eq_true]
            exact ⟨by decide, itoa_numC d.exp⟩
          · rfl
    · rfl

/-! ### a text in quotes -/
/-- what stands ahead of the first quote that is not said with a stroke, and behind it -/
def sc : Bs → Option (Bs × Bs)
  | [] => none
  | [c] => if c = 34 then some ([], []) else none
  | c :: d :: l => if c = 34 then some ([], d :: l) else if c = 92 then (sc l).map (fun p => (c :: d :: p.1, p.2)) else (sc (d :: l)).map (fun p => (c :: p.1, p.2))
theorem sc_end (r : Bs) : sc (34 :: r) = some ([], r) := by
  cases r with
  | nil => rfl
  | cons d l => rw [sc, if_pos rfl]
theorem sc_esc (d : UInt8) (r : Bs) : sc (92 :: d :: r) = (sc r).map (fun p => (92 :: d :: p.1, p.2)) := by
  rw [sc, if_neg (by decide), if_pos rfl]
theorem sc_plain {c : UInt8} (h : c ≠ 34) (h' : c ≠ 92) {r : Bs} (hr : r ≠ []) : sc (c :: r) = (sc r).map (fun p => (c :: p.1, p.2)) := by
  cases r with
  | nil => exact absurd rfl hr
  | cons d l => rw [sc, if_neg h, if_neg h']
theorem hexd_not : ∀ k, k < 16 → hexd k ≠ 34 ∧ hexd k ≠ 92 := by decide
theorem qb_shape (c : UInt8) : (∃ d, qb c = [92, d]) ∨ (∃ x y, qb c = [92, 117, 48, 48, x, y] ∧ (x ≠ 34 ∧ x ≠ 92) ∧ y ≠ 34 ∧ y ≠ 92) ∨ (qb c = [c] ∧ (c ≠ 34 ∧ c ≠ 92) ∧ 32 ≤ c.toNat) := by
  unfold qb
  by_cases h1 : c = 34 ∨ c = 92
  · rw [if_pos h1]; exact .inl ⟨c, rfl⟩
  rw [if_neg h1]
  by_cases h2 : c = 8
  · rw [if_pos h2]; exact .inl ⟨_, rfl⟩
  rw [if_neg h2]
  by_cases h3 : c = 12
  · rw [if_pos h3]; exact .inl ⟨_, rfl⟩
  rw [if_neg h3]
  by_cases h4 : c = 10
  · rw [if_pos h4]; exact .inl ⟨_, rfl⟩
  rw [if_neg h4]
  by_cases h5 : c = 13
  · rw [if_pos h5]; exact .inl ⟨_, rfl⟩
  rw [if_neg h5]
  by_cases h6 : c = 9
  · rw [if_pos h6]; exact .inl ⟨_, rfl⟩
  rw [if_neg h6]
  by_cases h7 : c < 32
  · rw [if_pos h7]
    have h8 : c.toNat < 32 := h7
    exact .inr (.inl ⟨_, _, rfl, hexd_not _ (by omega), hexd_not _ (by omega)⟩)
  · rw [if_neg h7]
    exact .inr (.inr ⟨rfl, ⟨fun e => h1 (.inl e), fun e => h1 (.inr e)⟩, by
      have h8 : ¬ c.toNat < 32 := h7
      omega⟩)
theorem ne_app {l : Bs} (c : UInt8) (r : Bs) : l ++ c :: r ≠ [] := by cases l <;> simp
theorem sc_qb (c : UInt8) (l r : Bs) : sc (qb c ++ (l ++ 34 :: r)) = (sc (l ++ 34 :: r)).map (fun p => (qb c ++ p.1, p.2)) := by
  have hr : l ++ 34 :: r ≠ [] := ne_app 34 r
  rcases qb_shape c with ⟨d, h⟩ | ⟨x, y, h, hx, hy⟩ | ⟨h, hc, _⟩
  · rw [h]
    show sc (92 :: d :: (l ++ 34 :: r)) = _
    rw [sc_esc]; rfl
  · rw [h]
    show sc (92 :: 117 :: 48 :: 48 :: x :: y :: (l ++ 34 :: r)) = _
    rw [sc_esc, sc_plain (by decide) (by decide) (by simp), sc_plain (by decide) (by decide) (by simp), sc_plain hx.1 hx.2 (by simp), sc_plain hy.1 hy.2 hr]
    cases sc (l ++ 34 :: r) <;> rfl
  · rw [h]
    show sc (c :: (l ++ 34 :: r)) = _
    rw [sc_plain hc.1 hc.2 hr]; rfl
theorem sc_quoteB (r : Bs) : ∀ l : Bs, sc (quoteB l ++ 34 :: r) = some (quoteB l, r)
  | [] => sc_end r
  | c :: l => by
    have e : quoteB (c :: l) = qb c ++ quoteB l := rfl
    rw [e, List.append_assoc, sc_qb, sc_quoteB r l]; rfl
def hexvP (c : UInt8) : Nat := if c.toNat < 58 then c.toNat - 48 else c.toNat - 87
/-- the byte that a code is of, and what stands behind it -/
def firstQ : Bs → UInt8 × Bs
  | [] => (0, [])
  | [c] => (c, [])
  | c :: d :: l => if c = 92 then (if d = 117 then (UInt8.ofNat (hexvP (l.getD 2 0) * 16 + hexvP (l.getD 3 0)), l.drop 4) else (if d = 98 then 8 else if d = 102 then 12 else if d = 110 then 10 else if d = 114 then 13 else if d = 116 then 9 else d, l)) else (c, d :: l)
theorem firstQ_low (x : Bs) : ∀ n, n < 32 → firstQ (qb (UInt8.ofNat n) ++ x) = (UInt8.ofNat n, x) := fun n h => match n, h with
  | 0, _ => rfl
  | 1, _ => rfl
  | 2, _ => rfl
  | 3, _ => rfl
  | 4, _ => rfl
  | 5, _ => rfl
  | 6, _ => rfl
  | 7, _ => rfl
  | 8, _ => rfl
  | 9, _ => rfl
  | 10, _ => rfl
  | 11, _ => rfl
  | 12, _ => rfl
  | 13, _ => rfl
  | 14, _ => rfl
  | 15, _ => rfl
  | 16, _ => rfl
  | 17, _ => rfl
  | 18, _ => rfl
  | 19, _ => rfl
  | 20, _ => rfl
  | 21, _ => rfl
  | 22, _ => rfl
  | 23, _ => rfl
  | 24, _ => rfl
  | 25, _ => rfl
  | 26, _ => rfl
  | 27, _ => rfl
  | 28, _ => rfl
  | 29, _ => rfl
  | 30, _ => rfl
  | 31, _ => rfl
  | n + 32, h => by omega
theorem firstQ_qb (c : UInt8) (x : Bs) : firstQ (qb c ++ x) = (c, x) := by
  by_cases h1 : c = 34
  · subst h1; rfl
  by_cases h2 : c = 92
  · subst h2; rfl
  by_cases h3 : c.toNat < 32
  · have e : c = UInt8.ofNat c.toNat := UInt8.toNat_inj.1 (by rw [UInt8.toNat_ofNat_of_lt' c.toNat_lt])
    rw [e]; exact firstQ_low x _ h3
  · rcases qb_shape c with ⟨d, h⟩ | ⟨a, b, h, _⟩ | ⟨h, _⟩
    · unfold qb at h
      rw [if_neg (fun h => h.elim h1 h2)] at h
      repeat' split at h
      all_goals first
        | (rename_i e; subst e; exact absurd (by decide) h3)
        | skip
      all_goals (rename_i e; first | (exact absurd e h3) | (injection h with _ h; cases h))
    · unfold qb at h
      rw [if_neg (fun h => h.elim h1 h2)] at h
      repeat' split at h
      all_goals first
        | (rename_i e; subst e; exact absurd (by decide) h3)
        | skip
      all_goals (rename_i e; first | (exact absurd e h3) | (injection h with _ h; cases h))
    · rw [h]
      cases x with
      | nil => rfl
      | cons d l =>
        show firstQ (c :: d :: l) = _
        rw [firstQ, if_neg h2]
theorem quoteB_inj : ∀ a b : Bs, quoteB a = quoteB b → a = b
  | [], [], _ => rfl
  | [], c :: b, h => by
    exfalso
    have e : quoteB (c :: b) = qb c ++ quoteB b := rfl
    rw [e] at h
    rcases qb_shape c with ⟨d, h2⟩ | ⟨x, y, h2, _⟩ | ⟨h2, _⟩ <;> (rw [h2] at h; cases h)
  | c :: a, [], h => by
    exfalso
    have e : quoteB (c :: a) = qb c ++ quoteB a := rfl
    rw [e] at h
    rcases qb_shape c with ⟨d, h2⟩ | ⟨x, y, h2, _⟩ | ⟨h2, _⟩ <;> (rw [h2] at h; cases h)
  | c :: a, d :: b, h => by
    have e1 : quoteB (c :: a) = qb c ++ quoteB a := rfl
    have e2 : quoteB (d :: b) = qb d ++ quoteB b := rfl
    rw [e1, e2] at h
    have h2 := congrArg firstQ h
    rw [firstQ_qb, firstQ_qb] at h2
    injection h2 with h3 h4
    rw [h3, quoteB_inj a b h4]
theorem qtB_is {t : Bs} (h : (valid (st t)).2 = true) : qtB t = 34 :: (quoteB t ++ [34]) := by
  unfold qtB quoteM
  rw [if_pos h, st_list]; rfl
theorem qt_uniq {t t' r r' : Bs} (h : (valid (st t)).2 = true) (h' : (valid (st t')).2 = true) (e : qtB t ++ r = qtB t' ++ r') : t = t' ∧ r = r' := by
  have e2 := e
  rw [qtB_is h, qtB_is h'] at e2
  have e3 : quoteB t ++ [34] ++ r = quoteB t' ++ [34] ++ r' := (List.cons.inj e2).2
  rw [List.append_assoc, List.append_assoc] at e3
  have e4 := congrArg sc e3
  rw [List.singleton_append, List.singleton_append, sc_quoteB, sc_quoteB] at e4
  have e5 := Option.some.inj e4
  injection e5 with e6 e7
  exact ⟨quoteB_inj _ _ e6, e7⟩

/-! ### rows -/
/-- a row's codes, each with a comma ahead -/
def tailB' {α : Type} (c : α → Bs) (l : List α) : Bs := l.flatMap fun x => 44 :: c x
/-- a code that is told apart wherever a value may end -/
structure Codes {α : Type} (c : α → Bs) (p : α → Prop) : Prop where
  ne : ∀ x, p x → ∃ d l, c x = d :: l ∧ d ≠ 93 ∧ d ≠ 125 ∧ d ≠ 44
theorem tail_uniq {α : Type} {c : α → Bs} {p : α → Prop} (e : UInt8) (he : e = 93 ∨ e = 125) (r r' : Bs) : ∀ (l l' : List α), (∀ x ∈ l, p x ∧ ∀ y, p y → ∀ s s', Dlm s → Dlm s' → c x ++ s = c y ++ s' → x = y ∧ s = s') → (∀ x ∈ l', p x) → tailB' c l ++ e :: r = tailB' c l' ++ e :: r' → l = l' ∧ r = r'
  | [], [], _, _, h => by
    injection h with _ h
    exact ⟨rfl, h⟩
  | [], y :: l', _, _, h => by
    exfalso
    simp only [tailB', List.flatMap_nil, List.flatMap_cons, List.nil_append, List.cons_append] at h
    injection h with h _
    rcases he with rfl | rfl <;> exact absurd h (by decide)
  | x :: l, [], _, _, h => by
    exfalso
    simp only [tailB', List.flatMap_nil, List.flatMap_cons, List.nil_append, List.cons_append] at h
    injection h with h _
    rcases he with rfl | rfl <;> exact absurd h (by decide)
  | x :: l, y :: l', h1, h2, h => by
    have dl : ∀ (m : List α) (q : Bs), Dlm (tailB' c m ++ e :: q) := fun m q => by
      cases m with
      | nil => exact dlm_cons _ (he.elim (fun h => .inr (.inl h)) (fun h => .inr (.inr (.inl h))))
      | cons z m => exact dlm_cons _ (.inl rfl)
    simp only [tailB', List.flatMap_cons, List.cons_append, List.append_assoc] at h
    injection h with _ h
    obtain ⟨e1, e2⟩ := (h1 x List.mem_cons_self).2 y (h2 y List.mem_cons_self) _ _ (dl l r) (dl l' r') h
    obtain ⟨e3, e4⟩ := tail_uniq e he r r' l l' (fun z hz => h1 z (List.mem_cons_of_mem _ hz)) (fun z hz => h2 z (List.mem_cons_of_mem _ hz)) e2
    exact ⟨by rw [e1, e3], e4⟩
theorem commaB_map {α : Type} (c : α → Bs) : ∀ l : List α, commaB [] (l.map c) = match l with | [] => [] | x :: l => c x ++ tailB' c l
  | [] => rfl
  | x :: l => by
    rw [List.map_cons, commaB]
    simp only [List.nil_append, tailB', List.flatMap_map]
theorem row_uniq {α : Type} {c : α → Bs} {p : α → Prop} (hc : Codes c p) (e : UInt8) (he : e = 93 ∨ e = 125) (r r' : Bs) (l l' : List α) (h1 : ∀ x ∈ l, p x ∧ ∀ y, p y → ∀ s s', Dlm s → Dlm s' → c x ++ s = c y ++ s' → x = y ∧ s = s') (h2 : ∀ x ∈ l', p x) (h : commaB [] (l.map c) ++ e :: r = commaB [] (l'.map c) ++ e :: r') : l = l' ∧ r = r' := by
  rw [commaB_map, commaB_map] at h
  have dl : ∀ (m : List α) (q : Bs), Dlm (tailB' c m ++ e :: q) := fun m q => by
    cases m with
    | nil => exact dlm_cons _ (he.elim (fun h => .inr (.inl h)) (fun h => .inr (.inr (.inl h))))
    | cons z m => exact dlm_cons _ (.inl rfl)
  have no : ∀ (x : α) (q q' : Bs), p x → e :: q = c x ++ q' → False := fun x q q' hx h => by
    obtain ⟨d, m, h3, h4, h5, _⟩ := hc.ne x hx
    rw [h3] at h
    injection h with h _
    rcases he with rfl | rfl
    · exact h4 h.symm
    · exact h5 h.symm
  cases l with
  | nil =>
    cases l' with
    | nil =>
      simp only [List.nil_append] at h
      injection h with _ h
      exact ⟨rfl, h⟩
    | cons y l' =>
      simp only [List.nil_append, List.append_assoc] at h
      exact (no y _ _ (h2 y List.mem_cons_self) h).elim
  | cons x l =>
    cases l' with
    | nil =>
      simp only [List.nil_append, List.append_assoc] at h
      exact (no x _ _ (h1 x List.mem_cons_self).1 h.symm).elim
    | cons y l' =>
      simp only [List.append_assoc] at h
      obtain ⟨e1, e2⟩ := (h1 x List.mem_cons_self).2 y (h2 y List.mem_cons_self) _ _ (dl l r) (dl l' r') h
      obtain ⟨e3, e4⟩ := tail_uniq (p := p) e he r r' l l' (fun z hz => h1 z (List.mem_cons_of_mem _ hz)) (fun z hz => h2 z (List.mem_cons_of_mem _ hz)) e2
      exact ⟨by rw [e1, e3], e4⟩

/-! ### values -/
/-- a node that can be printed, and all under it -/
def Rgt (v : Vl) : Prop := v.allB (fun x => nodeM x && decide (x.k ≠ 7)) = true
theorem Rgt.here {k : Int} {t : Bs} {ks : List Bs} {is : List Vl} (h : Rgt (.mk k t ks is)) : nodeM (.mk k t ks is) = true ∧ k ≠ 7 := by
  unfold Rgt at h
  simp only [Vl.allB, Bool.and_eq_true] at h
  exact ⟨h.1.1, of_decide_eq_true h.1.2⟩
theorem Rgt.item {k : Int} {t : Bs} {ks : List Bs} {is : List Vl} (h : Rgt (.mk k t ks is)) : ∀ x ∈ is, Rgt x := fun x hx => by
  unfold Rgt at h ⊢
  simp only [Vl.allB, Bool.and_eq_true] at h
  exact Vl.allsB_iff.1 h.2 x hx
/-- what a node that can be printed is -/
theorem Rgt.is {k : Int} {t : Bs} {ks : List Bs} {is : List Vl} (h : Rgt (.mk k t ks is)) :
    (k = 1 ∧ t = [] ∧ ks = [] ∧ is = []) ∨ (k = 2 ∧ (t = [116, 114, 117, 101] ∨ t = [102, 97, 108, 115, 101]) ∧ ks = [] ∧ is = []) ∨ (k = 3 ∧ decM t = true ∧ ks = [] ∧ is = []) ∨
    (k = 4 ∧ (valid (st t)).2 = true ∧ ks = [] ∧ is = []) ∨ (k = 5 ∧ t = [] ∧ ks = []) ∨ (k = 6 ∧ t = [] ∧ ks.length = is.length ∧ ∀ x ∈ ks, (valid (st x)).2 = true) := by
  obtain ⟨h1, h7⟩ := h.here
  have e : nodeM (.mk k t ks is) = if k = 5 then decide (t = []) && decide (ks = []) else if k = 6 then decide (t = []) && membersM ks is.length else (decide (ks = []) && decide (is = [])) && scalarM k t := rfl
  rw [e] at h1
  by_cases k5 : k = 5
  · rw [if_pos k5] at h1
    simp only [Bool.and_eq_true, decide_eq_true_eq] at h1
    exact .inr (.inr (.inr (.inr (.inl ⟨k5, h1⟩))))
  rw [if_neg k5] at h1
  by_cases k6 : k = 6
  · rw [if_pos k6] at h1
    unfold membersM at h1
    simp only [Bool.and_eq_true, decide_eq_true_eq, List.all_eq_true] at h1
    exact .inr (.inr (.inr (.inr (.inr ⟨k6, h1.1, h1.2.1, h1.2.2.2.1⟩))))
  rw [if_neg k6] at h1
  simp only [Bool.and_eq_true, decide_eq_true_eq] at h1
  obtain ⟨⟨h2, h3⟩, h4⟩ := h1
  unfold scalarM at h4
  by_cases k1 : k = 1
  · rw [if_pos k1, decide_eq_true_eq] at h4; exact .inl ⟨k1, h4, h2, h3⟩
  rw [if_neg k1] at h4
  by_cases k2 : k = 2
  · rw [if_pos k2, Bool.or_eq_true, decide_eq_true_eq, decide_eq_true_eq] at h4; exact .inr (.inl ⟨k2, h4, h2, h3⟩)
  rw [if_neg k2] at h4
  by_cases k3 : k = 3
  · rw [if_pos k3] at h4; exact .inr (.inr (.inl ⟨k3, h4, h2, h3⟩))
  rw [if_neg k3] at h4
  by_cases k4 : k = 4
  · rw [if_pos k4] at h4; exact .inr (.inr (.inr (.inl ⟨k4, h4, h2, h3⟩)))
  rw [if_neg k4, if_neg h7] at h4
  cases h4
/-- of which kind a value is that begins so -/
def kindC (c : UInt8) : Int := if c = 110 then 1 else if c = 116 ∨ c = 102 then 2 else if c = 34 then 4 else if c = 91 then 5 else if c = 123 then 6 else 3
theorem prB_head (ls : Bool) (n lev : Nat) {v : Vl} (h : Rgt v) : ∃ c l, prB ls n lev v = c :: l ∧ kindC c = v.k ∧ c ≠ 93 ∧ c ≠ 125 ∧ c ≠ 44 := by
  obtain ⟨k, t, ks, is⟩ := v
  rw [prB_mk]
  show ∃ c l, _ ∧ kindC c = k ∧ _
  rcases h.is with ⟨rfl, _⟩ | ⟨rfl, h1, _⟩ | ⟨rfl, h1, _⟩ | ⟨rfl, h1, _⟩ | ⟨rfl, _⟩ | ⟨rfl, _⟩
  · exact ⟨110, _, rfl, by decide, by decide, by decide, by decide⟩
  · rcases h1 with rfl | rfl
    · exact ⟨116, _, rfl, by decide, by decide, by decide, by decide⟩
    · exact ⟨102, _, rfl, by decide, by decide, by decide, by decide⟩
  · obtain ⟨h2, h3⟩ := dec_run h1
    cases t with
    | nil => exact absurd rfl h2
    | cons c l =>
      rw [List.all_cons, Bool.and_eq_true] at h3
      obtain ⟨n1, n2, n3, n4, n5, n6, n7, n8, n9, n10⟩ := numC_not h3.1
      refine ⟨c, l, rfl, ?_, n2, n3, n1⟩
      unfold kindC
      rw [if_neg n5, if_neg (fun h => h.elim n6 n7), if_neg n8, if_neg n9, if_neg n10]
  · exact ⟨34, _, by rw [if_neg (by decide), if_pos rfl, qtB_is h1], by decide, by decide, by decide, by decide⟩
  · exact ⟨91, _, rfl, by decide, by decide, by decide, by decide⟩
  · exact ⟨123, _, rfl, by decide, by decide, by decide, by decide⟩
theorem lnB_no (n lev : Nat) : lnB false n lev = [] := rfl
theorem listB_no (n lev : Nat) (o c : UInt8) (its : List Bs) (r : Bs) : listB false n lev o c its ++ r = o :: (commaB [] its ++ c :: r) := by
  unfold listB
  rw [lnB_no, lnB_no]
  split <;> simp
theorem memB_no (k x r : Bs) : memB false k x ++ r = qtB k ++ 58 :: (x ++ r) := by unfold memB; simp
theorem prB_codes (n lev : Nat) : Codes (prB false n lev) Rgt := ⟨fun x hx => by
  obtain ⟨c, l, h1, _, h2, h3, h4⟩ := prB_head false n lev hx
  exact ⟨c, l, h1, h2, h3, h4⟩⟩
theorem mem_codes (n lev : Nat) : Codes (fun q : Bs × Vl => memB false q.1 (prB false n lev q.2)) (fun q => (valid (st q.1)).2 = true ∧ Rgt q.2) := ⟨fun x hx => by
  refine ⟨34, quoteB x.1 ++ [34] ++ 58 :: prB false n lev x.2, ?_, by decide, by decide, by decide⟩
  unfold memB
  rw [qtB_is hx.1]; simp⟩
theorem zip_fst_snd {β : Type} : ∀ (a : List Bs) (b : List β), a.length = b.length → (a.zip b).map (·.1) = a ∧ (a.zip b).map (·.2) = b
  | [], [], _ => ⟨rfl, rfl⟩
  | x :: a, y :: b, h => by
    obtain ⟨h1, h2⟩ := zip_fst_snd a b (by simpa using h)
    simp [h1, h2]
/-- one text just of one value, wherever it stands -/
theorem prB_uniq (n : Nat) : ∀ v : Vl, Rgt v → ∀ (lev : Nat) (w : Vl), Rgt w → ∀ r r', Dlm r → Dlm r' → prB false n lev v ++ r = prB false n lev w ++ r' → v = w ∧ r = r' := Vl.ind (P := fun v => Rgt v → ∀ (lev : Nat) (w : Vl), Rgt w → ∀ r r', Dlm r → Dlm r' → prB false n lev v ++ r = prB false n lev w ++ r' → v = w ∧ r = r') (fun k t ks is ih hv lev w hw r r' hr hr' h => by
  have hk : k = w.k := by
    obtain ⟨c, l, h1, h2, _⟩ := prB_head false n lev hv
    obtain ⟨d, m, h3, h4, _⟩ := prB_head false n lev hw
    rw [h1, h3] at h
    injection h with e _
    rw [e] at h2
    exact h2.symm.trans h4
  obtain ⟨k', t', ks', is'⟩ := w
  have hk : k = k' := hk
  subst hk
  have hi := hv.item
  have hi' := hw.item
  rw [prB_mk, prB_mk] at h
  rcases hv.is with ⟨rfl, rfl, rfl, rfl⟩ | ⟨rfl, h1, rfl, rfl⟩ | ⟨rfl, h1, rfl, rfl⟩ | ⟨rfl, h1, rfl, rfl⟩ | ⟨rfl, rfl, rfl⟩ | ⟨rfl, rfl, h1, h2⟩ <;> rcases hw.is with ⟨e, w1, w2, w3⟩ | ⟨e, w1, w2, w3⟩ | ⟨e, w1, w2, w3⟩ | ⟨e, w1, w2, w3⟩ | ⟨e, w1, w2⟩ | ⟨e, w1, w2, w3⟩ <;> first | (exact absurd e (by decide)) | skip
  · subst w1; subst w2; subst w3
    exact ⟨rfl, List.append_cancel_left h⟩
  · subst w2; subst w3
    rcases h1 with rfl | rfl <;> rcases w1 with rfl | rfl
    · exact ⟨rfl, List.append_cancel_left h⟩
    · injection h with h _; exact absurd h (by decide)
    · injection h with h _; exact absurd h (by decide)
    · exact ⟨rfl, List.append_cancel_left h⟩
  · subst w2; subst w3
    obtain ⟨e1, e2⟩ := run_uniq t t' r r' (dec_run h1).2 (dec_run w1).2 hr hr' h
    exact ⟨by rw [e1], e2⟩
  · subst w2; subst w3
    obtain ⟨e1, e2⟩ := qt_uniq h1 w1 h
    exact ⟨by rw [e1], e2⟩
  · subst w1; subst w2
    rw [if_neg (by decide), if_neg (by decide), if_pos rfl, if_neg (by decide), if_neg (by decide), if_pos rfl, listB_no, listB_no] at h
    injection h with _ h
    obtain ⟨e1, e2⟩ := row_uniq (prB_codes n (lev + 1)) 93 (.inl rfl) r r' is is' (fun x hx => ⟨hi x hx, fun y hy s s' hs hs' hh => ih x hx (hi x hx) (lev + 1) y hy s s' hs hs' hh⟩) hi' h
    exact ⟨by rw [e1], e2⟩
  · subst w1
    rw [if_neg (by decide), if_neg (by decide), if_neg (by decide), if_pos rfl, if_neg (by decide), if_neg (by decide), if_neg (by decide), if_pos rfl, listB_no, listB_no, zip_zip, zip_zip] at h
    injection h with _ h
    obtain ⟨e1, e2⟩ := row_uniq (mem_codes n (lev + 1)) 125 (.inr rfl) r r' (ks.zip is) (ks'.zip is') (fun x hx => by
      have hx1 := List.of_mem_zip hx
      refine ⟨⟨h2 _ hx1.1, hi _ hx1.2⟩, fun y hy s s' hs hs' hh => ?_⟩
      rw [memB_no, memB_no] at hh
      obtain ⟨e1, e2⟩ := qt_uniq (h2 _ hx1.1) hy.1 hh
      injection e2 with _ e2
      obtain ⟨e3, e4⟩ := ih x.2 hx1.2 (hi _ hx1.2) (lev + 1) y.2 hy.2 s s' hs hs' e2
      exact ⟨Prod.ext e1 e3, e4⟩) (fun x hx => by
      have hx1 := List.of_mem_zip hx
      exact ⟨w3 _ hx1.1, hi' _ hx1.2⟩) h
    obtain ⟨a1, a2⟩ := zip_fst_snd ks is h1
    obtain ⟨b1, b2⟩ := zip_fst_snd ks' is' w2
    have e3 : ks = ks' := by rw [← a1, e1, b1]
    have e4 : is = is' := by rw [← a2, e1, b2]
    rw [e3, e4]
    exact ⟨rfl, e2⟩)
theorem right_rgt {v : Vl} (h : rightM v = true) : Rgt v := by
  unfold rightM at h
  simp only [Bool.and_eq_true] at h
  exact h.2.2
/-- Compact: one text just of one value -/
theorem compact_apart {v w : Vl} (hv : rightM v = true) (hw : rightM w = true) : (compactM v).1 = (compactM w).1 ↔ v = w := by
  unfold compactM
  rw [if_pos hv, if_pos hw]
  refine ⟨fun h => ?_, fun h => by rw [h]⟩
  have h : prB false 0 0 v = prB false 0 0 w := h
  exact (prB_uniq 0 v (right_rgt hv) 0 w (right_rgt hw) [] [] dlm_nil dlm_nil (by rw [h])).1
/-- Canon: one text just of the same -/
theorem canon_apart {v w : Vl} (hv : rightM v = true) (hw : rightM w = true) : (canonM v).1 = (canonM w).1 ↔ sameM v w = true := by
  have ov : openM v = true := by rw [right_open, Bool.and_eq_true] at hv; exact hv.1
  have ow : openM w = true := by rw [right_open, Bool.and_eq_true] at hw; exact hw.1
  have e : ∀ x, canonM x = compactM (sortM x) := fun _ => rfl
  have es : ∀ {x : Vl}, openM x = true → sortM x = sortV x := fun {x} h => if_pos h
  rw [e, e, compact_apart (by rw [sortM_right]; exact hv) (by rw [sortM_right]; exact hw), es ov, es ow, sameM_iff ov ow]
end Go.Proofs.YtnlkokgekjlmmaaGreatDoor
