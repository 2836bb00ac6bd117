/-
  PLAIN MATHEMATICS: rows of tokens: they are the text, each is itself alone, and of two texts with a comma between.
-/
import Derived.Test.YtleabaldjlbnlaaDoorLexN
namespace Go.Proofs.YtleabaldjlbnlaaDoor
open Go.RowKit

abbrev Tok := Nat × Nat × Nat
def toksL (s : ByteArray) : Nat → Nat → List Tok × Nat × Int
  | 0, p => ([], p, 0)
  | f + 1, p =>
    if p < s.size then
      (if (oneM s p).2.2 ≠ 0 then ([], (oneM s p).2.1, (oneM s p).2.2) else (((oneM s p).1, p, (oneM s p).2.1) :: (toksL s f (oneM s p).2.1).1, (toksL s f (oneM s p).2.1).2))
    else ([], p, 0)
theorem toksGo_L (s : ByteArray) : ∀ (f p : Nat) (acc : List Tok), toksGo s f p acc = (acc ++ (toksL s f p).1, (toksL s f p).2)
  | 0, p, acc => by simp [toksGo, toksL]
  | f + 1, p, acc => by
    unfold toksGo toksL
    by_cases hp : p < s.size
    · rw [if_pos hp, if_pos hp]
      by_cases he : (oneM s p).2.2 ≠ 0
      · rw [if_pos he, if_pos he]; simp
      · rw [if_neg he, if_neg he, toksGo_L s f]
        simp
    · rw [if_neg hp, if_neg hp]; simp
/-- what Tokens answers -/
def tokensM (s : ByteArray) : List Tok × Nat × Int :=
  if 65536 < s.size then ([], 0, 3) else if (toksM s).2.2 ≠ 0 then ([], (toksM s).2.1, (toksM s).2.2) else ((toksM s).1, s.size, 0)

def Chain : List Tok → Nat → Nat → Prop
  | [], a, b => a = b
  | x :: l, a, b => x.2.1 = a ∧ a < x.2.2 ∧ x.2.2 ≤ b ∧ 1 ≤ x.1 ∧ x.1 ≤ 12 ∧ Chain l x.2.2 b
theorem Chain.le : ∀ {l : List Tok} {a b : Nat}, Chain l a b → a ≤ b
  | [], _, _, h => Nat.le_of_eq h
  | _ :: _, _, _, h => by have := Chain.le h.2.2.2.2.2; have := h.2.1; omega
theorem toksL_chain (s : ByteArray) : ∀ (f p : Nat), p ≤ s.size → s.size ≤ p + f → (toksL s f p).2.1 ≤ s.size ∧ ((toksL s f p).2.2 = 0 → (toksL s f p).2.1 = s.size ∧ Chain (toksL s f p).1 p s.size)
  | 0, p, hp, hf => ⟨hp, fun _ => ⟨by simp only [toksL]; omega, by simp only [toksL, Chain]; omega⟩⟩
  | f + 1, p, hp, hf => by
    unfold toksL
    by_cases h : p < s.size
    · rw [if_pos h]
      obtain ⟨b1, b2, b3, b4⟩ := oneM_bd s p h
      by_cases he : (oneM s p).2.2 ≠ 0
      · rw [if_pos he]; exact ⟨b2, fun h => absurd h he⟩
      · rw [if_neg he]
        have b5 := b4 (by omega)
        obtain ⟨c1, c2⟩ := toksL_chain s f (oneM s p).2.1 b2 (by omega)
        refine ⟨c1, fun h0 => ?_⟩
        obtain ⟨d1, d2⟩ := c2 h0
        exact ⟨d1, rfl, b5.1, b2, b5.2, b3, d2⟩
    · rw [if_neg h]; exact ⟨hp, fun _ => ⟨by simp only; omega, by simp only [Chain]; omega⟩⟩

theorem kind_blank {s : ByteArray} {p : Nat} (h : (oneM s p).1 = 1) : isBlank (byt s p) = true ∧ (oneM s p).2.1 = runTo s isBlank p := by
  unfold oneM at h ⊢
  have hb := signM_bd (byt s p)
  have hw := wordM_bd (sub s p (runTo s isLet p))
  simp only at h ⊢
  by_cases c1 : signM (byt s p) ≠ 0
  · rw [if_pos c1] at h; simp only at h; omega
  · rw [if_neg c1] at h ⊢
    by_cases c2 : isBlank (byt s p) = true
    · rw [if_pos c2]; exact ⟨c2, rfl⟩
    · rw [if_neg c2] at h
      by_cases c3 : byt s p = 34
      · rw [if_pos c3] at h; simp only at h; omega
      · rw [if_neg c3] at h
        by_cases c4 : byt s p = 45 ∨ 48 ≤ byt s p ∧ byt s p ≤ 57
        · rw [if_pos c4] at h
          split at h <;> simp only at h <;> omega
        · rw [if_neg c4] at h
          split at h <;> simp only at h <;> omega
/-- no two blanks side by side -/
def NB (l : List Tok) : Prop := ∀ i (h : i + 1 < l.length), ¬ ((l[i]'(by omega)).1 = 1 ∧ (l[i + 1]'h).1 = 1)
theorem toksL_head {s : ByteArray} {f p : Nat} (h : 0 < (toksL s f p).1.length) : ((toksL s f p).1[0]'h).1 = (oneM s p).1 ∧ p < s.size := by
  cases f with
  | zero => exact absurd h (by simp [toksL])
  | succ f =>
    by_cases hp : p < s.size
    · by_cases he : (oneM s p).2.2 ≠ 0
      · exact absurd h (by rw [toksL, if_pos hp, if_pos he]; simp)
      · have e : (toksL s (f + 1) p).1 = ((oneM s p).1, p, (oneM s p).2.1) :: (toksL s f (oneM s p).2.1).1 := by rw [toksL, if_pos hp, if_neg he]
        refine ⟨?_, hp⟩
        simp only [e, List.getElem_cons_zero]
    · exact absurd h (by rw [toksL, if_neg hp]; simp)
theorem toksL_nb (s : ByteArray) : ∀ (f p : Nat), p ≤ s.size → NB (toksL s f p).1
  | 0, p, _ => fun i h => absurd h (by simp [toksL])
  | f + 1, p, hps => by
    have ih := toksL_nb s f (oneM s p).2.1
    unfold toksL
    by_cases hp : p < s.size
    · rw [if_pos hp]
      by_cases he : (oneM s p).2.2 ≠ 0
      · rw [if_pos he]; exact fun i h => absurd h (by simp)
      · rw [if_neg he]
        have ih := ih (oneM_bd s p hp).2.1
        intro i h
        cases i with
        | succ i => exact ih i (by simpa using h)
        | zero =>
          simp only [List.getElem_cons_zero, Nat.zero_add, List.getElem_cons_succ]
          have hl : 0 < (toksL s f (oneM s p).2.1).1.length := by simpa using h
          obtain ⟨k1, k2⟩ := toksL_head hl
          rintro ⟨h1, h2⟩
          obtain ⟨m1, m2⟩ := kind_blank h1
          rw [k1] at h2
          have m3 := (kind_blank h2).1
          rw [m2] at m3 k2
          rw [runTo_out s isBlank p hps k2] at m3
          cases m3
    · rw [if_neg hp]; exact fun i h => absurd h (by simp)

theorem toksL_mem (s : ByteArray) : ∀ (f p : Nat), p ≤ s.size → ∀ x ∈ (toksL s f p).1, x.2.1 < x.2.2 ∧ x.2.2 ≤ s.size ∧ oneM s x.2.1 = (x.1, x.2.2, 0)
  | 0, p, _ => fun x h => by cases h
  | f + 1, p, hps => by
    have ih := toksL_mem s f (oneM s p).2.1
    unfold toksL
    by_cases hp : p < s.size
    · rw [if_pos hp]
      obtain ⟨b1, b2, b3, b4⟩ := oneM_bd s p hp
      by_cases he : (oneM s p).2.2 ≠ 0
      · rw [if_pos he]; exact fun x h => by cases h
      · rw [if_neg he]
        intro x hx
        rcases List.mem_cons.1 hx with rfl | hx
        · have e0 : (oneM s p).2.2 = 0 := by omega
          exact ⟨(b4 e0).1, b2, by rw [← e0]⟩
        · exact ih b2 x hx
    · rw [if_neg hp]; exact fun x h => by cases h
/-- each token, alone -/
theorem toks_alone {s : ByteArray} {k a b : Nat} (hab : a < b) (hb : b ≤ s.size) (h : oneM s a = (k, b, 0)) : toksM (s.extract a b) = ([(k, 0, b - a)], b - a, 0) := by
  have hz : (s.extract a b).size = b - a := by rw [ByteArray.size_extract]; omega
  have ho := oneM_same (t := s.extract a b) (q := 0) (by omega) h (by omega) (fun j hj => by rw [Nat.zero_add]; exact byt_sub s a b j hb (by omega)) (.inl (by omega))
  rw [Nat.zero_add] at ho
  unfold toksM
  rw [toksGo_L, hz]
  obtain ⟨f, hf⟩ : ∃ f, b - a = f + 1 := ⟨b - a - 1, by omega⟩
  have hL : toksL (s.extract a b) (b - a) 0 = ([(k, 0, b - a)], b - a, 0) := by
    rw [hf, toksL, if_pos (by omega), ho]
    simp only
    rw [if_neg (by omega)]
    have he : toksL (s.extract a b) f (b - a) = ([], b - a, 0) := by
      cases f with
      | zero => rfl
      | succ f => rw [toksL, if_neg (by omega)]
    rw [he, ← hf]
  rw [hL]; rfl

/-- the front of a text, behind which a comma stands -/
theorem toksL_front {a t : ByteArray} (ht : a.size < t.size) (hc : byt t a.size = 44) (he : ∀ j, j < a.size → byt t j = byt a j) :
    ∀ (f p : Nat), p ≤ a.size → a.size ≤ p + f → (toksL a f p).2.2 = 0 → ∀ g, t.size ≤ p + g → ∃ g', t.size ≤ a.size + g' ∧ toksL t g p = ((toksL a f p).1 ++ (toksL t g' a.size).1, (toksL t g' a.size).2)
  | 0, p, hp, hf, _, g, hg => by
    obtain rfl : p = a.size := by omega
    exact ⟨g, hg, by simp [toksL]⟩
  | f + 1, p, hp, hf, h0, g, hg => by
    by_cases h : p < a.size
    · obtain ⟨g, rfl⟩ : ∃ i, g = i + 1 := ⟨g - 1, by omega⟩
      obtain ⟨b1, b2, b3, b4⟩ := oneM_bd a p h
      by_cases hz : (oneM a p).2.2 ≠ 0
      · rw [toksL, if_pos h, if_pos hz] at h0; exact absurd h0 hz
      · have eA : toksL a (f + 1) p = (((oneM a p).1, p, (oneM a p).2.1) :: (toksL a f (oneM a p).2.1).1, (toksL a f (oneM a p).2.1).2) := by rw [toksL, if_pos h, if_neg hz]
        rw [eA] at h0 ⊢
        have e0 : (oneM a p).2.2 = 0 := by omega
        have b5 := (b4 e0).1
        have ho := oneM_same (t := t) (q := p) (kd := (oneM a p).1) (e := (oneM a p).2.1) h (by rw [← e0]) (by omega) (fun j hj => he (p + j) (by omega)) (by
          rw [show p + ((oneM a p).2.1 - p) = (oneM a p).2.1 by omega]
          rcases Nat.lt_or_ge (oneM a p).2.1 a.size with h1 | h1
          · exact .inr (.inr ⟨h1, he _ h1⟩)
          · right; left; rw [show (oneM a p).2.1 = a.size by omega]; exact hc)
        rw [show p + ((oneM a p).2.1 - p) = (oneM a p).2.1 by omega] at ho
        obtain ⟨g', h1, h2⟩ := toksL_front ht hc he f (oneM a p).2.1 b2 (by omega) h0 g (by omega)
        refine ⟨g', h1, ?_⟩
        rw [toksL, if_pos (by omega), ho]
        simp only
        rw [if_neg (by omega), h2]
        rfl
    · obtain rfl : p = a.size := by omega
      refine ⟨g, hg, ?_⟩
      have : toksL a (f + 1) a.size = ([], a.size, 0) := by rw [toksL, if_neg (by omega)]
      rw [this]; simp

section
variable {b t : ByteArray} {n : Nat} (hz : t.size = n + b.size) (hx : ∀ p, p ≤ b.size → b.extract p b.size = t.extract (n + p) t.size)
include hz hx
theorem byt_shift (p : Nat) (hp : p < b.size) : byt t (n + p) = byt b p := by
  have h1 := byt_sub b p b.size 0 (Nat.le_refl _) (by omega)
  have h2 := byt_sub t (n + p) t.size 0 (Nat.le_refl _) (by omega)
  rw [hx p (by omega)] at h1
  rw [h1] at h2
  simpa using h2.symm
theorem partM_shift (p : Nat) (hp : p < b.size) : partM t (n + p) = partM b p := by
  rw [← partM_sub t (n + p) (by omega), ← partM_sub b p hp, hx p (by omega)]
theorem scanGo_shift : ∀ (f p g : Nat) (acc : List Nat), p ≤ b.size → b.size ≤ p + f → t.size ≤ n + p + g → scanGo t g (n + p) acc = (n + (scanGo b f p acc).1, (scanGo b f p acc).2)
  | 0, p, g, acc, hp, hf, hg => by
    have h1 : scanGo t g (n + p) acc = (t.size, 2, acc) := by
      cases g with
      | zero => rfl
      | succ g => rw [scanGo, if_neg (by omega)]
    rw [h1, hz]; rfl
  | f + 1, p, g, acc, hp, hf, hg => by
    by_cases h : p < b.size
    · obtain ⟨g, rfl⟩ : ∃ i, g = i + 1 := ⟨g - 1, by omega⟩
      rw [scanGo, if_pos (by omega), scanGo, if_pos h, byt_shift hz hx p h, partM_shift hz hx p h]
      by_cases h34 : byt b p = 34
      · rw [if_pos h34, if_pos h34]; rfl
      · rw [if_neg h34, if_neg h34]
        cases hpm : partM b p with
        | none => rfl
        | some x =>
          obtain ⟨r, m⟩ := x
          have hbd := partM_bd h hpm
          have ih := scanGo_shift f (p + m) g (acc ++ [r]) hbd.2.2.2.1 (by omega) (by omega)
          rw [← Nat.add_assoc] at ih
          exact ih
    · have h1 : scanGo t g (n + p) acc = (t.size, 2, acc) := by
        cases g with
        | zero => rfl
        | succ g => rw [scanGo, if_neg (by omega)]
      rw [h1, scanGo, if_neg h, hz]
theorem scanM_shift (p : Nat) (hp : p < b.size) : scanM t (n + p) = (n + (scanM b p).1, (scanM b p).2) := by
  unfold scanM
  rw [byt_shift hz hx p hp]
  by_cases h : byt b p = 34
  · rw [if_pos ⟨by omega, h⟩, if_pos ⟨hp, h⟩]
    exact scanGo_shift hz hx b.size (p + 1) t.size [] (by omega) (by omega) (by omega)
  · rw [if_neg (fun hh => h hh.2), if_neg (fun hh => h hh.2)]
theorem runTo_shift (w : Nat → Bool) (p : Nat) (hp : p ≤ b.size) : runTo t w (n + p) = n + runTo b w p := by
  have h1 := runTo_ge b w p
  have h2 := runTo_le b w p hp
  have h3 := runTo_same (t := t) (q := n + p) hp (w := w) rfl (by omega) (fun j hj => by rw [Nat.add_assoc]; exact byt_shift hz hx (p + j) (by omega)) (by
    rcases Nat.lt_or_ge (runTo b w p) b.size with h | h
    · right
      rw [show n + p + (runTo b w p - p) = n + runTo b w p by omega, byt_shift hz hx _ h]
      exact runTo_out b w p hp h
    · left; omega)
  rw [h3]; omega
theorem oneM_shift (p : Nat) (hp : p < b.size) : oneM t (n + p) = ((oneM b p).1, n + (oneM b p).2.1, (oneM b p).2.2) := by
  have hsub : ∀ w, sub t (n + p) (n + runTo b w p) = sub b p (runTo b w p) := fun w => by
    have h1 := runTo_ge b w p
    have h2 := runTo_le b w p (by omega)
    have h3 := sub_same (t := t) (q := n + p) h1 h2 (by omega) (fun j hj => by rw [Nat.add_assoc]; exact byt_shift hz hx (p + j) (by omega))
    rwa [show n + p + (runTo b w p - p) = n + runTo b w p by omega] at h3
  unfold oneM
  simp only
  rw [byt_shift hz hx p hp, runTo_shift hz hx _ p (by omega), runTo_shift hz hx _ p (by omega), runTo_shift hz hx _ p (by omega), hsub, hsub, scanM_shift hz hx p hp]
  repeat' split
  all_goals (first | rfl | simp only [Prod.mk.injEq, and_true, true_and]; omega)
def shiftT (n : Nat) (x : Tok) : Tok := (x.1, n + x.2.1, n + x.2.2)
theorem toksL_shift : ∀ (f p g : Nat), p ≤ b.size → b.size ≤ p + f → t.size ≤ n + p + g → toksL t g (n + p) = ((toksL b f p).1.map (shiftT n), n + (toksL b f p).2.1, (toksL b f p).2.2)
  | 0, p, g, hp, hf, hg => by
    have h1 : toksL t g (n + p) = ([], n + p, 0) := by
      cases g with
      | zero => rfl
      | succ g => rw [toksL, if_neg (by omega)]
    rw [h1]; rfl
  | f + 1, p, g, hp, hf, hg => by
    by_cases h : p < b.size
    · obtain ⟨g, rfl⟩ : ∃ i, g = i + 1 := ⟨g - 1, by omega⟩
      obtain ⟨b1, b2, b3, b4⟩ := oneM_bd b p h
      rw [toksL, if_pos (by omega), toksL, if_pos h, oneM_shift hz hx p h]
      simp only
      by_cases he : (oneM b p).2.2 ≠ 0
      · rw [if_pos he, if_pos he]; rfl
      · rw [if_neg he, if_neg he]
        have b5 := (b4 (by omega)).1
        rw [toksL_shift f (oneM b p).2.1 g b2 (by omega) (by omega)]
        rfl
    · have h1 : toksL t g (n + p) = ([], n + p, 0) := by
        cases g with
        | zero => rfl
        | succ g => rw [toksL, if_neg (by omega)]
      rw [h1, toksL, if_neg h]; rfl
end
/-- two texts with a comma between them -/
theorem toks_join {a b t : ByteArray} (hz : t.size = a.size + 1 + b.size) (hx : ∀ p, p ≤ b.size → b.extract p b.size = t.extract (a.size + 1 + p) t.size) (hc : byt t a.size = 44) (he : ∀ j, j < a.size → byt t j = byt a j) (h0 : (toksM a).2.2 = 0) :
    toksM t = ((toksM a).1 ++ (6, a.size, a.size + 1) :: (toksM b).1.map (shiftT (a.size + 1)), a.size + 1 + (toksM b).2.1, (toksM b).2.2) := by
  unfold toksM at h0 ⊢
  rw [toksGo_L] at h0 ⊢
  rw [toksGo_L, toksGo_L]
  simp only [List.nil_append] at h0 ⊢
  obtain ⟨g, hg, h1⟩ := toksL_front (by omega) hc he a.size 0 (Nat.zero_le _) (by omega) h0 t.size (by omega)
  obtain ⟨g, rfl⟩ : ∃ i, g = i + 1 := ⟨g - 1, by omega⟩
  have ho : oneM t a.size = (6, a.size + 1, 0) := by unfold oneM; rw [hc]; rfl
  have h2 : toksL t (g + 1) a.size = ((6, a.size, a.size + 1) :: (toksL t g (a.size + 1)).1, (toksL t g (a.size + 1)).2) := by
    rw [toksL, if_pos (by omega), ho]
    simp only
    rw [if_neg (by omega)]
  have h3 := toksL_shift hz hx b.size 0 g (Nat.zero_le _) (by omega) (by omega)
  rw [Nat.add_zero] at h3
  rw [h1, h2, h3]
end Go.Proofs.YtleabaldjlbnlaaDoor
