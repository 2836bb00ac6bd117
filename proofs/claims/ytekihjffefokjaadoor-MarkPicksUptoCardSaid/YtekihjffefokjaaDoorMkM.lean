/-
  PLAIN MATHEMATICS: texts with conflicts in them: what is encoded is decoded.
-/
import Derived.Test.YtekihjffefokjaaDoorNumMath
namespace Go.Proofs.YtekihjffefokjaaDoor

structure MPart where
  (hunk : Bool) (text s0 s1 s2 : Bs)
def isSgn (b : UInt8) : Bool := b == 60 || b == 124 || b == 61 || b == 62
def lead (c : UInt8) : Bs → Nat
  | [] => 0
  | b :: r => if b = c then lead c r + 1 else 0
/-- the most of one sign with which a line begins -/
def runGo : Bool → Bs → Nat
  | _, [] => 0
  | a, b :: r => max (if (a && isSgn b) = true then lead b (b :: r) else 0) (runGo (b == 10) r)
def runM (s : Bs) : Nat := runGo true s
def mrk (c : UInt8) (n : Nat) : Bs := 10 :: (List.replicate n c ++ [10])
theorem mrk_len (c : UInt8) (n : Nat) : (mrk c n).length = n + 2 := by simp [mrk]
theorem lead_ge (c : UInt8) (r : Bs) : ∀ n, n ≤ lead c (List.replicate n c ++ r)
  | 0 => Nat.zero_le _
  | n + 1 => by
    rw [List.replicate_succ, List.cons_append, lead, if_pos rfl]
    have := lead_ge c r n
    omega
theorem lead_le (c : UInt8) : ∀ l : Bs, lead c l ≤ l.length
  | [] => Nat.le_refl _
  | b :: r => by
    unfold lead
    have := lead_le c r
    split <;> simp only [List.length_cons] <;> omega
theorem runGo_le : ∀ (a : Bool) (l : Bs), runGo a l ≤ l.length
  | _, [] => Nat.le_refl _
  | a, b :: r => by
    unfold runGo
    have h1 := runGo_le (b == 10) r
    have h2 := lead_le b (b :: r)
    rw [List.length_cons] at *
    split <;> omega
theorem run_in (c : UInt8) (n : Nat) (r : Bs) (hc : isSgn c = true) (hn : 1 ≤ n) : ∀ (t : Bs) (a : Bool) (p : Nat), t.drop p = 10 :: (List.replicate n c ++ r) → n ≤ runGo a t
  | [], a, p, h => by rw [List.drop_nil] at h; cases h
  | b :: t, a, 0, h => by
    rw [List.drop_zero] at h
    injection h with h1 h2
    subst h1 h2
    obtain ⟨m, rfl⟩ : ∃ m, n = m + 1 := ⟨n - 1, by omega⟩
    have hl := lead_ge c r (m + 1)
    rw [List.replicate_succ, List.cons_append] at hl ⊢
    unfold runGo
    rw [show ((10 : UInt8) == 10) = true from rfl]
    refine Nat.le_trans ?_ (Nat.le_max_right _ _)
    unfold runGo
    rw [Bool.true_and, if_pos hc]
    exact Nat.le_trans hl (Nat.le_max_left _ _)
  | b :: t, a, p + 1, h => by
    rw [List.drop_succ_cons] at h
    have := run_in c n r hc hn t (b == 10) p h
    unfold runGo
    exact Nat.le_trans this (Nat.le_max_right _ _)
/-- ahead of a mark there is none, where the lines are shorter than it -/
theorem no_mark {t X : Bs} {c : UInt8} {n p : Nat} {r : Bs} (hX : X = [] ∨ ∃ x, X = 10 :: x) (hr : runM t < n) (hc : isSgn c = true) (hp : p < t.length) (h : (t ++ X).drop p = mrk c n ++ r) : False := by
  rw [List.drop_append_of_le_length (Nat.le_of_lt hp), List.drop_eq_getElem_cons hp] at h
  unfold mrk at h
  rw [List.cons_append, List.cons_append] at h
  injection h with h1 h2
  rw [List.append_assoc] at h2
  generalize hu : t.drop (p + 1) = u at h2
  have htd : t.drop p = 10 :: u := by rw [List.drop_eq_getElem_cons hp, h1, hu]
  by_cases hn : n ≤ u.length
  · have e : u = List.replicate n c ++ u.drop n := by
      have h3 := congrArg (List.take n) h2
      rw [List.take_append_of_le_length hn, List.take_append_of_le_length (by simp), List.take_of_length_le (l := List.replicate n c) (by simp)] at h3
      rw [← h3, List.take_append_drop]
    have := run_in c n (u.drop n) hc (by omega) t true p (by rw [htd, ← e])
    unfold runM at hr
    omega
  · have h3 := congrArg (fun l : Bs => l[u.length]?) h2
    rw [List.getElem?_append_right (Nat.le_refl _), Nat.sub_self, List.getElem?_append_left (by simp; omega), List.getElem?_replicate, if_pos (by omega)] at h3
    rcases hX with rfl | ⟨x, rfl⟩
    · cases h3
    · simp only [List.getElem?_cons_zero] at h3
      have h4 := Option.some.inj h3
      rw [← h4] at hc
      cases hc
/-- a text cut at the first place where another one stands -/
def cutL (m : Bs) : Bs → Option (Bs × Bs)
  | [] => none
  | b :: s => if m.isPrefixOf (b :: s) = true then some ([], (b :: s).drop m.length) else (cutL m s).map fun x => (b :: x.1, x.2)
theorem cutL_at (m r : Bs) (hm : m ≠ []) : ∀ t : Bs, (∀ p r', p < t.length → (t ++ (m ++ r)).drop p ≠ m ++ r') → cutL m (t ++ (m ++ r)) = some (t, r)
  | [], _ => by
    obtain ⟨b, m', rfl⟩ := List.exists_cons_of_ne_nil hm
    rw [List.nil_append, List.cons_append, cutL, if_pos (by rw [List.isPrefixOf_iff_prefix]; exact List.prefix_append (b :: m') r)]
    rw [← List.cons_append, List.drop_left]
  | b :: t, h => by
    rw [List.cons_append, cutL, if_neg, cutL_at m r hm t, Option.map_some]
    · intro p r' hp he
      refine h (p + 1) r' (by rw [List.length_cons]; omega) ?_
      rw [List.cons_append, List.drop_succ_cons]; exact he
    · intro hc
      rw [List.isPrefixOf_iff_prefix] at hc
      obtain ⟨r', hr'⟩ := hc
      refine h 0 r' (by rw [List.length_cons]; omega) ?_
      rw [List.drop_zero, List.cons_append]; exact hr'.symm
theorem cutL_none (m : Bs) : ∀ t : Bs, (∀ p r', p < t.length → t.drop p ≠ m ++ r') → cutL m t = none
  | [], _ => rfl
  | b :: t, h => by
    rw [cutL, if_neg, cutL_none m t, Option.map_none]
    · intro p r' hp he
      refine h (p + 1) r' (by rw [List.length_cons]; omega) ?_
      rw [List.drop_succ_cons]; exact he
    · intro hc
      rw [List.isPrefixOf_iff_prefix] at hc
      obtain ⟨r', hr'⟩ := hc
      exact h 0 r' (by rw [List.length_cons]; omega) (by rw [List.drop_zero]; exact hr'.symm)
theorem cutL_is {m s a b : Bs} : cutL m s = some (a, b) → s = a ++ (m ++ b) := by
  induction s generalizing a b with
  | nil => intro h; cases h
  | cons x s ih =>
    unfold cutL
    split
    · rename_i hp
      rw [List.isPrefixOf_iff_prefix] at hp
      obtain ⟨r', hr'⟩ := hp
      intro h
      have h := Option.some.inj h
      injection h with h1 h2
      rw [← h1, ← h2, ← hr', List.drop_left]; rfl
    · intro h
      cases hc : cutL m s with
      | none => rw [hc] at h; cases h
      | some y =>
        rw [hc] at h
        obtain ⟨y1, y2⟩ := y
        have h := Option.some.inj h
        injection h with h1 h2
        subst h1 h2
        rw [ih hc]; rfl

def partB (n : Nat) (x : MPart) : Bs := if x.hunk = true then mrk 60 n ++ (x.s1 ++ (mrk 124 n ++ (x.s0 ++ (mrk 61 n ++ (x.s2 ++ mrk 62 n))))) else x.text
def encGo (n : Nat) (l : List MPart) : Bs := l.flatMap (partB n)
def txt (t : Bs) : MPart := ⟨false, t, [], [], []⟩
def partsM (n : Nat) : Nat → Bs → Option (List MPart)
  | 0, _ => some []
  | f + 1, s => if s = [] then some [] else
    match cutL (mrk 60 n) s with
    | none => some [txt s]
    | some (t, r) => match cutL (mrk 124 n) r with
      | none => none
      | some (b1, r1) => match cutL (mrk 61 n) r1 with
        | none => none
        | some (b0, r2) => match cutL (mrk 62 n) r2 with
          | none => none
          | some (b2, r3) => (partsM n f r3).map fun l => (if t = [] then [] else [txt t]) ++ ⟨true, [], b0, b1, b2⟩ :: l
/-- parts as they must be: a text stands behind a hunk, or first -/
def okL : Bool → List MPart → Prop
  | _, [] => True
  | a, x :: l => if x.hunk = true then x.text = [] ∧ okL true l else a = true ∧ x.text ≠ [] ∧ x.s0 = [] ∧ x.s1 = [] ∧ x.s2 = [] ∧ okL false l
def runsM (x : MPart) : Nat := max (runM x.text) (max (runM x.s0) (max (runM x.s1) (runM x.s2)))
def grtGo (a : Nat) : List MPart → Nat
  | [] => a
  | x :: l => grtGo (max a (runsM x)) l
theorem grtGo_ge : ∀ (l : List MPart) (a : Nat), a ≤ grtGo a l
  | [], _ => Nat.le_refl _
  | _ :: l, _ => Nat.le_trans (Nat.le_max_left _ _) (grtGo_ge l _)
theorem grtGo_in : ∀ (l : List MPart) (a : Nat) (x : MPart), x ∈ l → runsM x ≤ grtGo a l
  | [], _, _, h => by cases h
  | y :: l, a, x, h => by
    rcases List.mem_cons.1 h with rfl | h
    · exact Nat.le_trans (Nat.le_max_right _ _) (grtGo_ge l _)
    · exact grtGo_in l _ x h
def widthM (l : List MPart) : Nat := grtGo 6 l + 1
theorem widthM_7 (l : List MPart) : 7 ≤ widthM l := by have := grtGo_ge l 6; unfold widthM; omega
theorem widthM_in (l : List MPart) (x : MPart) (h : x ∈ l) : runM x.text < widthM l ∧ runM x.s0 < widthM l ∧ runM x.s1 < widthM l ∧ runM x.s2 < widthM l := by
  have := grtGo_in l 6 x h
  unfold runsM at this
  unfold widthM
  omega
def Short (n : Nat) (x : MPart) : Prop := runM x.text < n ∧ runM x.s0 < n ∧ runM x.s1 < n ∧ runM x.s2 < n
theorem cut_mark {t r : Bs} {c : UInt8} {n : Nat} (ht : runM t < n) (hc : isSgn c = true) : cutL (mrk c n) (t ++ (mrk c n ++ r)) = some (t, r) :=
  cutL_at _ r (by simp [mrk]) t fun _ _ hp he => no_mark (.inr ⟨_, by unfold mrk; rw [List.cons_append]⟩) ht hc hp he
theorem cut_marks {t r : Bs} {c d : UInt8} {n : Nat} (ht : runM t < n) (hc : isSgn c = true) : cutL (mrk c n) (t ++ (mrk c n ++ (r ++ mrk d n))) = some (t, r ++ mrk d n) := cut_mark ht hc
theorem partB_hunk {n : Nat} {x : MPart} (h : x.hunk = true) (r : Bs) : partB n x ++ r = mrk 60 n ++ (x.s1 ++ (mrk 124 n ++ (x.s0 ++ (mrk 61 n ++ (x.s2 ++ (mrk 62 n ++ r)))))) := by
  unfold partB
  rw [if_pos h]
  simp only [List.append_assoc]
theorem partB_text {n : Nat} {x : MPart} (h : x.hunk = false) : partB n x = x.text := by unfold partB; rw [if_neg (by rw [h]; exact Bool.false_ne_true)]
theorem mrk_ne (c : UInt8) (n : Nat) : mrk c n ≠ [] := by simp [mrk]
/-- what was made out of parts is taken apart into them -/
theorem parts_enc (n : Nat) (hn : 1 ≤ n) : ∀ (f : Nat) (l : List MPart) (a : Bool), l.length < f → okL a l → (∀ x ∈ l, Short n x) → partsM n f (encGo n l) = some l := by
  intro f
  induction f with
  | zero => intro l a h; omega
  | succ f ih =>
    intro l a hf hok hs
    have hunk : ∀ (t : Bs) (x : MPart) (l : List MPart), x.hunk = true → l.length < f → runM t < n → x.text = [] → okL true l → Short n x → (∀ x ∈ l, Short n x) →
        partsM n (f + 1) (t ++ (partB n x ++ encGo n l)) = some ((if t = [] then [] else [txt t]) ++ x :: l) := by
      intro t x l hx hlf ht hxt hokl hsx hsl
      rw [partsM, if_neg (by rw [partB_hunk hx]; simp [mrk]), partB_hunk hx, cut_mark ht rfl]
      simp only
      rw [cut_mark hsx.2.2.1 rfl]
      simp only
      rw [cut_mark hsx.2.1 rfl]
      simp only
      rw [cut_mark hsx.2.2.2 rfl]
      simp only
      rw [ih l true hlf hokl hsl]
      obtain ⟨xh, xt, x0, x1, x2⟩ := x
      simp only at hx hxt
      subst hx hxt
      rfl
    cases l with
    | nil => rfl
    | cons x l =>
      unfold okL at hok
      have hsx := hs x (List.mem_cons_self ..)
      have hsl : ∀ y ∈ l, Short n y := fun y hy => hs y (List.mem_cons_of_mem _ hy)
      rw [List.length_cons] at hf
      cases hx : x.hunk with
      | true =>
        rw [if_pos hx] at hok
        have := hunk [] x l hx (by omega) (by show runGo true [] < n; unfold runGo; omega) hok.1 hok.2 hsx hsl
        rw [List.nil_append, if_pos rfl, List.nil_append] at this
        exact this
      | false =>
        rw [if_neg (by rw [hx]; exact Bool.false_ne_true)] at hok
        obtain ⟨_, hxt, h0, h1, h2, hokl⟩ := hok
        have hxe : x = txt x.text := by
          obtain ⟨xh, xt, x0, x1, x2⟩ := x
          simp only at hx h0 h1 h2
          subst hx h0 h1 h2
          rfl
        have hen : encGo n (x :: l) = x.text ++ encGo n l := by show partB n x ++ encGo n l = _; rw [partB_text hx]
        rw [hen]
        cases l with
        | nil =>
          rw [show encGo n [] = [] from rfl, List.append_nil, partsM, if_neg hxt, cutL_none]
          · simp only
            rw [← hxe]
          · intro p r' hp he
            refine no_mark (X := []) (c := 60) (r := r') (.inl rfl) hsx.1 rfl hp ?_
            rw [List.append_nil]; exact he
        | cons y l =>
          unfold okL at hokl
          have hsy := hsl y (List.mem_cons_self ..)
          have hsl2 : ∀ z ∈ l, Short n z := fun z hz => hsl z (List.mem_cons_of_mem _ hz)
          rw [List.length_cons] at hf
          cases hy : y.hunk with
          | true =>
            rw [if_pos hy] at hokl
            have := hunk x.text y l hy (by omega) hsx.1 hokl.1 hokl.2 hsy hsl2
            rw [if_neg hxt, List.singleton_append, ← hxe] at this
            exact this
          | false =>
            rw [if_neg (by rw [hy]; exact Bool.false_ne_true)] at hokl
            cases hokl.1
theorem isSgn_ne10' {c : UInt8} (h : isSgn c = true) : c ≠ 10 := by rintro rfl; cases h
/-- the most of one of the four signs with which a line begins -/
def runL (l : Bs) : Nat := max (lead 60 l) (max (lead 124 l) (max (lead 61 l) (lead 62 l)))
theorem lead_app {c : UInt8} (hc : c ≠ 10) (r : Bs) : ∀ l : Bs, lead c (l ++ 10 :: r) = lead c l
  | [] => by show lead c (10 :: r) = 0; rw [lead, if_neg (fun h => hc h.symm)]
  | b :: l => by rw [List.cons_append, lead, lead, lead_app hc r l]
theorem lead_other {c b : UInt8} (l : Bs) (h : b ≠ c) : lead c (b :: l) = 0 := by rw [lead, if_neg h]
theorem runL_cons (b : UInt8) (l : Bs) : runL (b :: l) = if isSgn b = true then lead b (b :: l) else 0 := by
  unfold runL isSgn
  by_cases h1 : b = 60
  · subst h1; rw [lead_other (c := 124) l (by decide), lead_other (c := 61) l (by decide), lead_other (c := 62) l (by decide)]; simp
  · by_cases h2 : b = 124
    · subst h2; rw [lead_other (c := 60) l (by decide), lead_other (c := 61) l (by decide), lead_other (c := 62) l (by decide)]; simp
    · by_cases h3 : b = 61
      · subst h3; rw [lead_other (c := 60) l (by decide), lead_other (c := 124) l (by decide), lead_other (c := 62) l (by decide)]; simp
      · by_cases h4 : b = 62
        · subst h4; rw [lead_other (c := 60) l (by decide), lead_other (c := 124) l (by decide), lead_other (c := 61) l (by decide)]; simp
        · rw [lead_other l h1, lead_other l h2, lead_other l h3, lead_other l h4, if_neg (by simp [h1, h2, h3, h4])]; rfl
theorem runGo_in : ∀ l : Bs, (∀ b ∈ l, b ≠ 10) → runGo false l = 0
  | [], _ => rfl
  | b :: l, h => by
    unfold runGo
    rw [beq_eq_false_iff_ne.2 (h b (List.mem_cons_self ..)), runGo_in l (fun x hx => h x (List.mem_cons_of_mem _ hx))]; rfl
theorem runGo_in2 (r : Bs) : ∀ l : Bs, (∀ b ∈ l, b ≠ 10) → runGo false (l ++ 10 :: r) = runM r
  | [], _ => by
    show runGo false (10 :: r) = _
    unfold runGo
    rw [show ((10 : UInt8) == 10) = true from rfl, Bool.false_and, if_neg Bool.false_ne_true, Nat.zero_max]; rfl
  | b :: l, h => by
    rw [List.cons_append]
    unfold runGo
    rw [beq_eq_false_iff_ne.2 (h b (List.mem_cons_self ..)), runGo_in2 r l (fun x hx => h x (List.mem_cons_of_mem _ hx)), Bool.false_and, if_neg Bool.false_ne_true, Nat.zero_max]
theorem runM_line {l : Bs} (h : ∀ b ∈ l, b ≠ 10) : runM l = runL l := by
  cases l with
  | nil => rfl
  | cons b l =>
    have hb := h b (List.mem_cons_self ..)
    unfold runM runGo
    rw [Bool.true_and, beq_eq_false_iff_ne.2 hb, runGo_in l (fun x hx => h x (List.mem_cons_of_mem _ hx)), Nat.max_zero, runL_cons]
theorem runM_next {l r : Bs} (h : ∀ b ∈ l, b ≠ 10) : runM (l ++ 10 :: r) = max (runL l) (runM r) := by
  cases l with
  | nil =>
    show runM (10 :: r) = max (runL []) (runM r)
    conv => lhs; unfold runM runGo
    rw [show ((10 : UInt8) == 10) = true from rfl, show isSgn 10 = false from rfl]
    rfl
  | cons b l =>
    have hb := h b (List.mem_cons_self ..)
    rw [List.cons_append]
    conv => lhs; unfold runM runGo
    rw [Bool.true_and, beq_eq_false_iff_ne.2 hb, runGo_in2 r l (fun x hx => h x (List.mem_cons_of_mem _ hx)), runL_cons]
    congr 1
    by_cases hs : isSgn b = true
    · rw [if_pos hs, if_pos hs, ← List.cons_append, lead_app (isSgn_ne10' hs)]
    · rw [if_neg hs, if_neg hs]
theorem lead_step (c : UInt8) (l : Bs) : lead c (c :: l) = lead c l + 1 := by rw [lead, if_pos rfl]
end Go.Proofs.YtekihjffefokjaaDoor
