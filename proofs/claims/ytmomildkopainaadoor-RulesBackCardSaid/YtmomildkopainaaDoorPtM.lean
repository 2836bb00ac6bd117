/-
  PLAIN MATHEMATICS of pointers' texts: a step with its two signs escaped, a path as a text, cut and unescaped again; what strings.ReplaceAll makes of one and of two bytes.
-/
import Derived.Test.YtmomildkopainaaDoorNumMath
import Derived.Lib.SplitLaws
import Derived.Lib.IndexBytes
import Derived.Lib.Replace
import Derived.Lib.ReplaceLaws
namespace Go.Proofs.YtmomildkopainaaDoor

/-- a byte, the other ones in its place -/
def psub (c : UInt8) (new l : Bs) : Bs := l.flatMap fun b => if b = c then new else [b]
/-- a step, as a pointer's text holds it -/
def pesc (x : Bs) : Bs := psub 47 [126, 49] (psub 126 [126, 48] x)
def ptext (p : List Bs) : Bs := p.flatMap fun x => 47 :: pesc x
/-- two bytes, one in their place -/
def un2 (d c : UInt8) : Bs → Bs
  | [] => []
  | [b] => [b]
  | a :: b :: r => if a = 126 ∧ b = d then c :: un2 d c r else a :: un2 d c (b :: r)
def unesc (x : Bs) : Bs := un2 48 126 (un2 49 47 x)
def tildeOk : Bs → Bool
  | [] => true
  | [b] => b != 126
  | a :: b :: r => (a != 126 || b == 48 || b == 49) && tildeOk (b :: r)
/-- cut at each of a byte -/
def cutAt (c : UInt8) : Bs → List Bs
  | [] => [[]]
  | b :: r => if b = c then [] :: cutAt c r else match cutAt c r with
    | [] => [[b]]
    | x :: l => (b :: x) :: l
theorem psub_app (c : UInt8) (new a b : Bs) : psub c new (a ++ b) = psub c new a ++ psub c new b := List.flatMap_append
theorem pesc_app (a b : Bs) : pesc (a ++ b) = pesc a ++ pesc b := by unfold pesc; rw [psub_app, psub_app]
theorem pesc_nil : pesc [] = [] := rfl
theorem pesc_one (b : UInt8) : pesc [b] = if b = 126 then [126, 48] else if b = 47 then [126, 49] else [b] := by
  unfold pesc psub
  by_cases h : b = 126
  · subst h; decide
  · simp [h]
theorem pesc_cons (b : UInt8) (x : Bs) : pesc (b :: x) = (if b = 126 then [126, 48] else if b = 47 then [126, 49] else [b]) ++ pesc x := by
  have := pesc_app [b] x
  rw [pesc_one] at this
  exact this
theorem pesc_slash : ∀ x : Bs, 47 ∉ pesc x
  | [] => by simp [pesc_nil]
  | b :: x => by
    rw [pesc_cons]
    have := pesc_slash x
    intro h
    rw [List.mem_append] at h
    rcases h with h | h
    · by_cases h1 : b = 126
      · rw [if_pos h1] at h; revert h; decide
      · rw [if_neg h1] at h
        by_cases h2 : b = 47
        · rw [if_pos h2] at h; revert h; decide
        · rw [if_neg h2] at h
          simp at h
          exact h2 h.symm
    · exact this h
theorem un2_skip {d c b : UInt8} {r : Bs} (h : b ≠ 126) : un2 d c (b :: r) = b :: un2 d c r := by
  cases r with
  | nil => rfl
  | cons a r => rw [un2, if_neg (fun e => h e.1)]
theorem un2_hit {d c : UInt8} {r : Bs} : un2 d c (126 :: d :: r) = c :: un2 d c r := by rw [un2, if_pos ⟨rfl, rfl⟩]
theorem un2_miss {d c e : UInt8} {r : Bs} (h : e ≠ d) (h2 : e ≠ 126) : un2 d c (126 :: e :: r) = 126 :: e :: un2 d c r := by
  rw [un2, if_neg (fun e => h e.2), un2_skip h2]
theorem unesc_pesc : ∀ x : Bs, unesc (pesc x) = x
  | [] => rfl
  | b :: x => by
    have ih := unesc_pesc x
    rw [pesc_cons]
    unfold unesc at ih ⊢
    by_cases h1 : b = 126
    · rw [if_pos h1]
      subst h1
      show un2 48 126 (un2 49 47 (126 :: 48 :: pesc x)) = _
      rw [un2_miss (by decide) (by decide), un2_hit, ih]
    · rw [if_neg h1]
      by_cases h2 : b = 47
      · rw [if_pos h2]
        subst h2
        show un2 48 126 (un2 49 47 (126 :: 49 :: pesc x)) = _
        rw [un2_hit, un2_skip (by decide), ih]
      · rw [if_neg h2]
        show un2 48 126 (un2 49 47 (b :: pesc x)) = _
        rw [un2_skip h1, un2_skip h1, ih]
theorem tildeOk_skip {b : UInt8} {r : Bs} (h : b ≠ 126) : tildeOk (b :: r) = tildeOk r := by
  cases r with
  | nil => simp [tildeOk, h]
  | cons a r => simp [tildeOk, h]
theorem tildeOk_esc {b : UInt8} {r : Bs} (h : b = 48 ∨ b = 49) : tildeOk (126 :: b :: r) = tildeOk r := by
  have hb : b ≠ 126 := by rcases h with h | h <;> (subst h; decide)
  rw [tildeOk, tildeOk_skip hb]
  rcases h with h | h <;> simp [h]
theorem tildeOk_pesc : ∀ (x r : Bs), tildeOk (pesc x ++ r) = tildeOk r
  | [], r => rfl
  | b :: x, r => by
    have ih := tildeOk_pesc x r
    rw [pesc_cons]
    by_cases h1 : b = 126
    · rw [if_pos h1]
      show tildeOk (126 :: 48 :: (pesc x ++ r)) = _
      rw [tildeOk_esc (.inl rfl), ih]
    · rw [if_neg h1]
      by_cases h2 : b = 47
      · rw [if_pos h2]
        show tildeOk (126 :: 49 :: (pesc x ++ r)) = _
        rw [tildeOk_esc (.inr rfl), ih]
      · rw [if_neg h2]
        show tildeOk (b :: (pesc x ++ r)) = _
        rw [tildeOk_skip h1, ih]
theorem tildeOk_ptext : ∀ p : List Bs, tildeOk (ptext p) = true
  | [] => rfl
  | x :: p => by
    have ih := tildeOk_ptext p
    unfold ptext at ih ⊢
    rw [List.flatMap_cons, List.cons_append, tildeOk_skip (by decide), tildeOk_pesc, ih]
theorem count_pesc (x : Bs) : (pesc x).count 47 = 0 := List.count_eq_zero.2 (pesc_slash x)
theorem count_ptext : ∀ p : List Bs, (ptext p).count 47 = p.length
  | [] => rfl
  | x :: p => by
    have ih := count_ptext p
    unfold ptext at ih ⊢
    rw [List.flatMap_cons, List.cons_append, List.count_cons_self, List.count_append, count_pesc, ih, List.length_cons]
    omega
theorem cutAt_ne (c : UInt8) : ∀ l : Bs, cutAt c l ≠ []
  | [] => by simp [cutAt]
  | b :: r => by
    unfold cutAt
    split
    · simp
    · split <;> simp
theorem cutAt_app (c : UInt8) : ∀ (x : Bs), c ∉ x → ∀ r, cutAt c (x ++ c :: r) = x :: cutAt c r
  | [], _, r => by simp [cutAt]
  | b :: x, h, r => by
    have hb : b ≠ c := fun e => h (by simp [e])
    have ih := cutAt_app c x (fun e => h (by simp [e])) r
    rw [List.cons_append, cutAt, if_neg hb, ih]
theorem cutAt_none (c : UInt8) : ∀ (x : Bs), c ∉ x → cutAt c x = [x]
  | [], _ => rfl
  | b :: x, h => by
    have hb : b ≠ c := fun e => h (by simp [e])
    rw [cutAt, if_neg hb, cutAt_none c x (fun e => h (by simp [e]))]
theorem cutAt_ptext : ∀ (x : Bs) (p : List Bs), cutAt 47 ((ptext (x :: p)).drop 1) = (x :: p).map pesc
  | x, [] => by
    unfold ptext
    simp only [List.flatMap_cons, List.flatMap_nil, List.append_nil, List.drop_succ_cons, List.drop_zero, List.map_cons, List.map_nil]
    exact cutAt_none 47 _ (pesc_slash x)
  | x, y :: p => by
    have ih := cutAt_ptext y p
    unfold ptext at ih ⊢
    rw [List.flatMap_cons]
    simp only [List.cons_append, List.drop_succ_cons, List.drop_zero]
    rw [List.flatMap_cons] at ih ⊢
    simp only [List.cons_append, List.drop_succ_cons, List.drop_zero] at ih ⊢
    rw [cutAt_app 47 _ (pesc_slash x), ih]
    rfl
theorem cut_unesc (x : Bs) (p : List Bs) : (cutAt 47 ((ptext (x :: p)).drop 1)).map unesc = x :: p := by
  rw [cutAt_ptext, List.map_map]
  have : (unesc ∘ pesc) = id := funext fun y => unesc_pesc y
  rw [this, List.map_id]
/-- Lib's answers are these -/
theorem index_skip {old : Bs} {a : UInt8} {l : Bs} (h : old.isPrefixOf (a :: l) = false) : Lib.index (a :: l) old = if Lib.index l old == -1 then -1 else Lib.index l old + 1 := by
  rw [Lib.index, if_neg (by rw [h]; decide)]
theorem count_skip {old : Bs} {a : UInt8} {l : Bs} (h0 : old ≠ []) (h : old.isPrefixOf (a :: l) = false) : Lib.count (a :: l) old = Lib.count l old := by
  have e := index_skip h
  have hg := Lib.index_ge l old
  by_cases hm : Lib.index l old = -1
  · rw [Lib.count_miss hm, Lib.count_miss (by rw [e, hm]; rfl)]
  · obtain ⟨i, hi⟩ : ∃ i : Nat, Lib.index l old = i := ⟨(Lib.index l old).toNat, by omega⟩
    have e2 : Lib.index (a :: l) old = ((i + 1 : Nat) : Int) := by rw [e, if_neg (by simpa using hm), hi]; omega
    rw [Lib.count_hit h0 hi, Lib.count_hit h0 e2]
    congr 2
    rw [show i + 1 + old.length = (i + old.length) + 1 by omega]
    rfl
theorem replaceK_skip {old new : Bs} {a : UInt8} {l : Bs} (h : old.isPrefixOf (a :: l) = false) : ∀ k, Lib.replaceK old new k (a :: l) = a :: Lib.replaceK old new k l
  | 0 => rfl
  | k + 1 => by
    have e := index_skip h
    have hg := Lib.index_ge l old
    by_cases hm : Lib.index l old = -1
    · have e2 : Lib.index (a :: l) old = -1 := by rw [e, hm]; rfl
      rw [Lib.replaceK, if_pos (by rw [e2]; rfl), Lib.replaceK, if_pos (by rw [hm]; rfl)]
    · obtain ⟨i, hi⟩ : ∃ i : Nat, Lib.index l old = i := ⟨(Lib.index l old).toNat, by omega⟩
      have e2 : Lib.index (a :: l) old = ((i + 1 : Nat) : Int) := by rw [e, if_neg (by simpa using hm), hi]; omega
      rw [Lib.replaceK_hit _ _ _ _ _ hi, Lib.replaceK_hit _ _ _ _ _ e2, show i + 1 + old.length = (i + old.length) + 1 by omega]
      simp
theorem replaceK_two (d c : UInt8) : ∀ (n : Nat) (l : Bs), l.length ≤ n → Lib.replaceK [126, d] [c] (Lib.count l [126, d]) l = un2 d c l
  | _, [], _ => rfl
  | _, [b], _ => by
    have h : ([126, d] : Bs).isPrefixOf [b] = false := by simp [List.isPrefixOf]
    rw [count_skip (by simp) h, replaceK_skip h]
    rfl
  | 0, a :: b :: r, h => absurd h (by simp)
  | n + 1, a :: b :: r, hn => by
    simp only [List.length_cons] at hn
    by_cases h : a = 126 ∧ b = d
    · obtain ⟨rfl, rfl⟩ := h
      have hi : Lib.index (126 :: b :: r) [126, b] = ((0 : Nat) : Int) := by rw [Lib.index, if_pos (by simp [List.isPrefixOf])]; rfl
      rw [Lib.count_hit (by simp) hi, Nat.add_comm, Lib.replaceK_hit _ _ _ _ _ hi, un2_hit]
      simp only [List.take_zero, List.nil_append, List.length_cons, List.length_nil, Nat.zero_add, List.drop_succ_cons, List.drop_zero, List.singleton_append]
      rw [replaceK_two b c n r (by omega)]
    · have hp : ([126, d] : Bs).isPrefixOf (a :: b :: r) = false := by
        simp only [List.isPrefixOf, Bool.and_true]
        by_cases ha : a = 126
        · have hb : ¬ d = b := fun e => h ⟨ha, e.symm⟩
          simp [hb]
        · have ha' : ¬ 126 = a := fun e => ha e.symm
          simp [ha']
      rw [count_skip (by simp) hp, replaceK_skip hp, replaceK_two d c n (b :: r) (by simp; omega), un2, if_neg h]
theorem replaceAll_two (d c : UInt8) (l : Bs) : Lib.replaceAll l [126, d] [c] = un2 d c l := by
  unfold Lib.replaceAll Lib.replace
  rw [if_neg (by simp)]
  unfold Lib.replaceNum
  rw [if_pos (.inl (by decide))]
  exact replaceK_two d c _ l (Nat.le_refl _)
theorem psub_none {c : UInt8} {new l : Bs} (h : l.count c = 0) : psub c new l = l := by
  unfold psub
  have hn : ∀ b ∈ l, b ≠ c := fun b hb e => by
    have := List.count_eq_zero.1 h
    rw [e] at hb
    exact this hb
  induction l with
  | nil => rfl
  | cons b l ih =>
    rw [List.flatMap_cons, if_neg (hn b (by simp)), ih (by
      rw [List.count_cons] at h; omega) (fun x hx => hn x (by simp [hx]))]
    rfl
theorem replaceK_psub (c : UInt8) (new : Bs) : ∀ l : Bs, Lib.replaceK [c] new (Lib.count l [c]) l = psub c new l
  | [] => rfl
  | b :: l => by
    have ih := replaceK_psub c new l
    by_cases hb : b = c
    · subst hb
      have hi : Lib.index (b :: l) [b] = ((0 : Nat) : Int) := by rw [Lib.index, if_pos (by simp [List.isPrefixOf])]; rfl
      rw [Lib.count_hit (by simp) hi, Nat.add_comm, Lib.replaceK_hit _ _ _ _ _ hi]
      simp only [List.take_zero, List.nil_append, List.length_cons, List.length_nil, Nat.zero_add, List.drop_succ_cons, List.drop_zero]
      rw [ih]
      unfold psub
      rw [List.flatMap_cons, if_pos rfl]
    · have hp : ([c] : Bs).isPrefixOf (b :: l) = false := by
        have : ¬ c = b := fun e => hb e.symm
        simp [List.isPrefixOf, this]
      rw [count_skip (by simp) hp, replaceK_skip hp, ih]
      unfold psub
      rw [List.flatMap_cons, if_neg hb]
      rfl
theorem replaceAll_psub (c : UInt8) (new l : Bs) (h : new ≠ [c]) : Lib.replaceAll l [c] new = psub c new l := by
  unfold Lib.replaceAll Lib.replace
  rw [if_neg (by simpa using fun e => h e.symm)]
  unfold Lib.replaceNum
  rw [if_pos (.inl (by decide)), replaceK_psub]
theorem psub_len (c : UInt8) (new : Bs) (hn : new.length ≤ 2) : ∀ l : Bs, (psub c new l).length ≤ 2 * l.length
  | [] => Nat.le_refl _
  | b :: l => by
    have ih := psub_len c new hn l
    unfold psub at ih ⊢
    rw [List.flatMap_cons, List.length_append, List.length_cons]
    split
    · omega
    · rw [List.length_singleton]; omega
theorem pesc_len : ∀ x : Bs, (pesc x).length ≤ 2 * x.length
  | [] => Nat.le_refl _
  | b :: x => by
    have ih := pesc_len x
    rw [pesc_cons, List.length_append, List.length_cons]
    split
    · rw [List.length_cons, List.length_singleton]; omega
    · split
      · rw [List.length_cons, List.length_singleton]; omega
      · rw [List.length_singleton]; omega
theorem un2_len (d c : UInt8) : ∀ (n : Nat) (l : Bs), l.length ≤ n → (un2 d c l).length ≤ l.length
  | _, [], _ => Nat.le_refl _
  | _, [b], _ => Nat.le_refl _
  | 0, a :: b :: r, h => absurd h (by simp)
  | n + 1, a :: b :: r, hn => by
    simp only [List.length_cons] at hn
    rw [un2]
    split
    · have := un2_len d c n r (by omega)
      simp; omega
    · have := un2_len d c n (b :: r) (by simp; omega)
      simp at this ⊢; omega
end Go.Proofs.YtmomildkopainaaDoor
