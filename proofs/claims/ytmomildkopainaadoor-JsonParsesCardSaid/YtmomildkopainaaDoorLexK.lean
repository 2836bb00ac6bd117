/-
  PLAIN MATHEMATICS: the tokens of a text of JSON.
  PLAIN MATHEMATICS: a token that stands elsewhere is that token.
  PLAIN MATHEMATICS: rows of tokens: they are the text, each is itself alone, and of two texts with a comma between.
-/
import Derived.Test.YtmomildkopainaaDoorUnqB
import Derived.Test.YtmomildkopainaaDoorNumMath
import Derived.Test.YtmomildkopainaaDoorNumJ
import Derived.Test.YtmomildkopainaaDoorUnqC

namespace Go.Proofs.YtmomildkopainaaDoor
open Go.RowKit

def isBlank (c : Nat) : Bool := c == 32 || c == 9 || c == 10 || c == 13
def isNum (c : Nat) : Bool := c == 45 || c == 43 || c == 46 || (decide (48 ≤ c) && decide (c ≤ 57)) || c == 101 || c == 69
def isLet (c : Nat) : Bool := decide (97 ≤ c) && decide (c ≤ 122)
/-- where the bytes of a set end, from p on -/
def runM (s : ByteArray) (q : Nat → Bool) : Nat → Nat → Nat
  | 0, p => p
  | f + 1, p => if p < s.size ∧ q (byt s p) = true then runM s q f (p + 1) else p
def runTo (s : ByteArray) (q : Nat → Bool) (p : Nat) : Nat := runM s q (s.size - p) p
theorem runM_step {s : ByteArray} {q : Nat → Bool} {f p : Nat} (h : p < s.size) (h1 : q (byt s p) = true) : runM s q (f + 1) p = runM s q f (p + 1) := by rw [runM, if_pos ⟨h, h1⟩]
theorem runTo_step {s : ByteArray} {q : Nat → Bool} {p : Nat} (h : p < s.size) (h1 : q (byt s p) = true) : runTo s q p = runTo s q (p + 1) := by
  unfold runTo
  rw [show s.size - p = (s.size - (p + 1)) + 1 by omega, runM_step h h1]
theorem runTo_stop {s : ByteArray} {q : Nat → Bool} {p : Nat} (h1 : q (byt s p) = false) : runTo s q p = p := by
  unfold runTo
  cases s.size - p with
  | zero => rfl
  | succ f => rw [runM, if_neg (fun h => by rw [h1] at h; exact absurd h.2 (by decide))]
theorem runTo_end {s : ByteArray} {q : Nat → Bool} {p : Nat} (h : s.size ≤ p) : runTo s q p = p := by
  unfold runTo
  rw [show s.size - p = 0 by omega]; rfl
theorem runM_bd (s : ByteArray) (q : Nat → Bool) : ∀ f p, p ≤ runM s q f p ∧ (p ≤ s.size → runM s q f p ≤ s.size) ∧ (∀ j, p ≤ j → j < runM s q f p → q (byt s j) = true)
  | 0, p => ⟨Nat.le_refl _, fun h => h, fun j h1 h2 => by unfold runM at h2; omega⟩
  | f + 1, p => by
    unfold runM
    split
    · rename_i h
      obtain ⟨h1, h2, h3⟩ := runM_bd s q f (p + 1)
      refine ⟨by omega, fun _ => h2 h.1, fun j k1 k2 => ?_⟩
      by_cases hj : j = p
      · rw [hj]; exact h.2
      · exact h3 j (by omega) k2
    · exact ⟨Nat.le_refl _, fun h => h, fun j h1 h2 => by omega⟩
theorem runTo_ge (s : ByteArray) (q : Nat → Bool) (p : Nat) : p ≤ runTo s q p := (runM_bd s q _ p).1
theorem runTo_le (s : ByteArray) (q : Nat → Bool) (p : Nat) (h : p ≤ s.size) : runTo s q p ≤ s.size := (runM_bd s q _ p).2.1 h
theorem runTo_in (s : ByteArray) (q : Nat → Bool) (p j : Nat) (h1 : p ≤ j) (h2 : j < runTo s q p) : q (byt s j) = true := (runM_bd s q _ p).2.2 j h1 h2
theorem runM_out (s : ByteArray) (q : Nat → Bool) : ∀ f p, s.size ≤ p + f → runM s q f p < s.size → q (byt s (runM s q f p)) = false
  | 0, p, h, h2 => by unfold runM at h2; omega
  | f + 1, p, h, h2 => by
    unfold runM at h2 ⊢
    split
    · rename_i hc
      rw [if_pos hc] at h2
      exact runM_out s q f (p + 1) (by omega) h2
    · rename_i hc
      rw [if_neg hc] at h2
      cases hq1 : q (byt s p) with
      | false => rfl
      | true => exact absurd ⟨h2, hq1⟩ hc
theorem runTo_out (s : ByteArray) (q : Nat → Bool) (p : Nat) (hp : p ≤ s.size) (h : runTo s q p < s.size) : q (byt s (runTo s q p)) = false := runM_out s q _ p (by omega) h

/-- the kind of a sign; 0: none -/
def signM (c : Nat) : Nat := if c = 123 then 2 else if c = 125 then 3 else if c = 91 then 4 else if c = 93 then 5 else if c = 44 then 6 else if c = 58 then 7 else 0
def wordM (l : Bs) : Nat := if l = [116, 114, 117, 101] then 10 else if l = [102, 97, 108, 115, 101] then 11 else if l = [110, 117, 108, 108] then 12 else 0
/-- the bytes from a to b -/
def sub (s : ByteArray) (a b : Nat) : Bs := (s.extract a b).data.toList
/-- the token at p: kind, end, error -/
def oneM (s : ByteArray) (p : Nat) : Nat × Nat × Int :=
  let c := byt s p
  if signM c ≠ 0 then (signM c, p + 1, 0)
  else if isBlank c = true then (1, runTo s isBlank p, 0)
  else if c = 34 then (8, (scanM s p).1, (scanM s p).2.1)
  else if c = 45 ∨ 48 ≤ c ∧ c ≤ 57 then
    (if (parseM (sub s p (runTo s isNum p))).2 ≠ 0 then (0, p, (parseM (sub s p (runTo s isNum p))).2) else (9, runTo s isNum p, 0))
  else if wordM (sub s p (runTo s isLet p)) ≠ 0 then (wordM (sub s p (runTo s isLet p)), runTo s isLet p, 0) else (0, p, 2)
/-- all tokens from p on: those ahead of an error; where; the error -/
def toksGo (s : ByteArray) : Nat → Nat → List (Nat × Nat × Nat) → List (Nat × Nat × Nat) × Nat × Int
  | 0, p, acc => (acc, p, 0)
  | f + 1, p, acc =>
    if p < s.size then
      (if (oneM s p).2.2 ≠ 0 then (acc, (oneM s p).2.1, (oneM s p).2.2) else toksGo s f (oneM s p).2.1 (acc ++ [((oneM s p).1, p, (oneM s p).2.1)]))
    else (acc, p, 0)
def toksM (s : ByteArray) : List (Nat × Nat × Nat) × Nat × Int := toksGo s s.size 0 []

theorem scanGo_ge (s : ByteArray) : ∀ (f p : Nat) (acc : List Nat), p ≤ s.size → p ≤ (scanGo s f p acc).1 ∧ (scanGo s f p acc).1 ≤ s.size ∧ ((scanGo s f p acc).2.1 = 0 → p < (scanGo s f p acc).1)
  | 0, p, acc, h => ⟨h, Nat.le_refl _, fun h => by unfold scanGo at h; cases h⟩
  | f + 1, p, acc, h => by
    unfold scanGo
    by_cases hp : p < s.size
    · rw [if_pos hp]
      by_cases h34 : byt s p = 34
      · rw [if_pos h34]; exact ⟨by simp only; omega, hp, fun _ => by simp only; omega⟩
      · rw [if_neg h34]
        cases hpm : partM s p with
        | none => exact ⟨Nat.le_refl _, Nat.le_of_lt hp, fun h => by cases h⟩
        | some x =>
          obtain ⟨r, n⟩ := x
          have hbd := partM_bd hp hpm
          obtain ⟨a1, a2, a3⟩ := scanGo_ge s f (p + n) (acc ++ [r]) hbd.2.2.2.1
          exact ⟨by simp only; omega, a2, fun h => by have := a3 h; simp only; omega⟩
    · rw [if_neg hp]; exact ⟨h, Nat.le_refl _, fun h => by cases h⟩
theorem scanM_ge (s : ByteArray) (p : Nat) (h : p ≤ s.size) : p ≤ (scanM s p).1 ∧ (scanM s p).1 ≤ s.size ∧ ((scanM s p).2.1 = 0 → p < (scanM s p).1) := by
  unfold scanM
  split
  · rename_i hc
    obtain ⟨a1, a2, a3⟩ := scanGo_ge s s.size (p + 1) [] hc.1
    exact ⟨by omega, a2, fun h => by have := a3 h; omega⟩
  · exact ⟨Nat.le_refl _, h, fun h => by cases h⟩
theorem wordM_len {l : Bs} (h : wordM l ≠ 0) : 0 < l.length := by
  unfold wordM at h
  split at h
  · subst l; decide
  · split at h
    · subst l; decide
    · split at h
      · subst l; decide
      · exact absurd rfl h
theorem sub_len (s : ByteArray) (a b : Nat) (h : b ≤ s.size) : (sub s a b).length = b - a := by
  unfold sub
  rw [Array.length_toList]
  show (s.extract a b).size = _
  rw [ByteArray.size_extract]; omega
theorem signM_bd (c : Nat) : signM c ≤ 7 ∧ (signM c ≠ 0 → 2 ≤ signM c) := by
  unfold signM
  repeat' split
  all_goals (exact ⟨by omega, fun _ => by omega⟩)
theorem wordM_bd (l : Bs) : wordM l ≤ 12 ∧ (wordM l ≠ 0 → 10 ≤ wordM l) := by
  unfold wordM
  repeat' split
  all_goals (exact ⟨by omega, fun _ => by omega⟩)
theorem oneM_bd (s : ByteArray) (p : Nat) (h : p < s.size) : p ≤ (oneM s p).2.1 ∧ (oneM s p).2.1 ≤ s.size ∧ (oneM s p).1 ≤ 12 ∧ ((oneM s p).2.2 = 0 → p < (oneM s p).2.1 ∧ 1 ≤ (oneM s p).1) := by
  unfold oneM
  have hb := signM_bd (byt s p)
  simp only
  split
  · rename_i hc; exact ⟨by simp only; omega, h, by simp only; omega, fun _ => ⟨by simp only; omega, by simp only; omega⟩⟩
  · split
    · rename_i hc
      have h1 := runTo_step h hc
      have h2 := runTo_ge s isBlank (p + 1)
      have h3 := runTo_le s isBlank p (by omega)
      exact ⟨by simp only; omega, h3, by simp only; omega, fun _ => ⟨by simp only; omega, by simp only; omega⟩⟩
    · split
      · obtain ⟨a1, a2, a3⟩ := scanM_ge s p (by omega)
        exact ⟨a1, a2, by simp only; omega, fun h => ⟨a3 h, by simp only; omega⟩⟩
      · split
        · rename_i hc
          have hn : isNum (byt s p) = true := by
            unfold isNum
            simp only [Bool.or_eq_true, Bool.and_eq_true, beq_iff_eq, decide_eq_true_eq]
            omega
          have h1 := runTo_step h hn
          have h2 := runTo_ge s isNum (p + 1)
          have h3 := runTo_le s isNum p (by omega)
          split
          · rename_i he; exact ⟨Nat.le_refl _, by simp only; omega, by simp only; omega, fun h => absurd h he⟩
          · exact ⟨by simp only; omega, h3, by simp only; omega, fun _ => ⟨by simp only; omega, by simp only; omega⟩⟩
        · have h2 := runTo_ge s isLet p
          have h3 := runTo_le s isLet p (by omega)
          have hw := wordM_bd (sub s p (runTo s isLet p))
          split
          · rename_i hc
            have h4 := wordM_len hc
            rw [sub_len s p _ h3] at h4
            exact ⟨h2, h3, hw.1, fun _ => ⟨by simp only; omega, by simp only; omega⟩⟩
          · exact ⟨Nat.le_refl _, by simp only; omega, by simp only; omega, fun h => by cases h⟩
end Go.Proofs.YtmomildkopainaaDoor

namespace Go.Proofs.YtmomildkopainaaDoor
open Go.RowKit

theorem uni_same {s t : ByteArray} {p q m : Nat} (h : uni s p = some m) (hq' : q + 6 ≤ t.size) (he : ∀ j, j < 6 → byt t (q + j) = byt s (p + j)) : uni t q = some m := by
  unfold uni at h ⊢
  have h0 := he 0 (by omega)
  rw [Nat.add_zero, Nat.add_zero] at h0
  rw [h0, he 1 (by omega), he 2 (by omega), he 3 (by omega), he 4 (by omega), he 5 (by omega)]
  split at h
  · rename_i hc; rw [if_pos ⟨hq', hc.2⟩]; exact h
  · cases h
theorem escU_same {s t : ByteArray} {p q r n : Nat} (h : escU s p = some (r, n)) (hq' : q + n ≤ t.size) (he : ∀ j, j < n → byt t (q + j) = byt s (p + j)) : escU t q = some (r, n) := by
  have hbd := (escU_bd h).2.1
  unfold escU at h ⊢
  cases hu : uni s p with
  | none => rw [hu] at h; cases h
  | some m =>
    rw [hu] at h
    rw [uni_same hu (by omega) (fun j hj => he j (by omega))]
    simp only at h ⊢
    split at h
    · cases h
    · rename_i c1
      rw [if_neg c1]
      split at h
      · rename_i c2; rw [if_pos c2]; exact h
      · rename_i c2
        rw [if_neg c2]
        cases hu2 : uni s (p + 6) with
        | none => rw [hu2] at h; cases h
        | some m2 =>
          rw [hu2] at h
          simp only at h
          have hn : n = 12 := by
            split at h
            · cases h
            · exact (congrArg Prod.snd (Option.some.inj h)).symm
          subst hn
          have he2 : ∀ j, j < 6 → byt t (q + 6 + j) = byt s (p + 6 + j) := fun j hj => by
            have := he (6 + j) (by clear h he hbd; omega)
            rwa [← Nat.add_assoc, ← Nat.add_assoc] at this
          rw [uni_same hu2 (q := q + 6) (by clear h he hbd he2; omega) he2]
          exact h
theorem escM_same {s t : ByteArray} {p q r n : Nat} (h : escM s p = some (r, n)) (hq' : q + n ≤ t.size) (he : ∀ j, j < n → byt t (q + j) = byt s (p + j)) : escM t q = some (r, n) := by
  have hbd := escM_bd h
  unfold escM at h ⊢
  rw [he 1 (by omega), if_neg (by omega)]
  rw [if_neg (by omega)] at h
  by_cases c1 : byt s (p + 1) = 34 ∨ byt s (p + 1) = 92 ∨ byt s (p + 1) = 47
  · rw [if_pos c1] at h ⊢; exact h
  · rw [if_neg c1] at h ⊢
    by_cases c2 : byt s (p + 1) = 98
    · rw [if_pos c2] at h ⊢; exact h
    · rw [if_neg c2] at h ⊢
      by_cases c3 : byt s (p + 1) = 102
      · rw [if_pos c3] at h ⊢; exact h
      · rw [if_neg c3] at h ⊢
        by_cases c4 : byt s (p + 1) = 110
        · rw [if_pos c4] at h ⊢; exact h
        · rw [if_neg c4] at h ⊢
          by_cases c5 : byt s (p + 1) = 114
          · rw [if_pos c5] at h ⊢; exact h
          · rw [if_neg c5] at h ⊢
            by_cases c6 : byt s (p + 1) = 116
            · rw [if_pos c6] at h ⊢; exact h
            · rw [if_neg c6] at h ⊢
              exact escU_same h hq' he
theorem partM_same {s t : ByteArray} {p q r n : Nat} (hp : p < s.size) (h : partM s p = some (r, n)) (hq' : q + n ≤ t.size) (he : ∀ j, j < n → byt t (q + j) = byt s (p + j)) : partM t q = some (r, n) := by
  have hbd := partM_bd hp h
  have h0 := he 0 (by omega)
  rw [Nat.add_zero, Nat.add_zero] at h0
  unfold partM at h ⊢
  rw [h0]
  by_cases c1 : byt s p = 92
  · rw [if_pos c1] at h ⊢; exact escM_same h hq' he
  · rw [if_neg c1] at h ⊢
    by_cases c2 : byt s p < 32
    · rw [if_pos c2] at h; cases h
    · rw [if_neg c2] at h ⊢
      by_cases c3 : bad s p
      · rw [if_pos c3] at h; cases h
      · rw [if_neg c3] at h
        injection h with h
        have hw : wd s p = n := by unfold wd; rw [h]
        have hd := dec_same s t p q c3 (by rw [hw]; exact hq') (fun j hj => he j (by omega))
        rw [if_neg (by unfold bad at c3 ⊢; rw [hd]; exact c3), hd, h]
theorem scan_same (s t : ByteArray) : ∀ (f p q g : Nat) (acc : List Nat) (e : Nat) (rs : List Nat), p ≤ s.size → scanGo s f p acc = (e, 0, rs) → q + (e - p) ≤ t.size → (∀ j, j < e - p → byt t (q + j) = byt s (p + j)) → t.size ≤ q + g →
    scanGo t g q acc = (q + (e - p), 0, rs)
  | 0, p, q, g, acc, e, rs, _, h, _, _, _ => by
    unfold scanGo at h
    injection h with _ h; injection h with h _; cases h
  | f + 1, p, q, g, acc, e, rs, hps, h, hq', he, hg => by
    have hge := scanGo_ge s (f + 1) p acc hps
    rw [h] at hge
    have hlt := hge.2.2 rfl
    simp only at hlt
    unfold scanGo at h
    have hp : p < s.size := by
      rcases Nat.lt_or_ge p s.size with hp | hp
      · exact hp
      · rw [if_neg (by omega)] at h
        injection h with _ h; injection h with h _; cases h
    rw [if_pos hp] at h
    obtain ⟨g, rfl⟩ : ∃ i, g = i + 1 := ⟨g - 1, by omega⟩
    have h0 := he 0 (by omega)
    rw [Nat.add_zero, Nat.add_zero] at h0
    rw [scanGo, if_pos (by omega), h0]
    by_cases h34 : byt s p = 34
    · rw [if_pos h34] at h ⊢
      injection h with h1 h; injection h with _ h2
      rw [h2, ← h1]
      simp only [Prod.mk.injEq, and_true]
      omega
    · rw [if_neg h34] at h ⊢
      cases hpm : partM s p with
      | none =>
        rw [hpm] at h
        injection h with _ h; injection h with h _; cases h
      | some x =>
        obtain ⟨r, n⟩ := x
        have hbd := partM_bd hp hpm
        rw [hpm] at h
        simp only at h
        have hge2 := (scanGo_ge s f (p + n) (acc ++ [r]) hbd.2.2.2.1).2.2
        rw [h] at hge2
        have hlt2 := hge2 rfl
        simp only at hlt2
        rw [partM_same hp hpm (q := q) (by omega) (fun j hj => he j (by omega))]
        simp only
        rw [scan_same s t f (p + n) (q + n) g (acc ++ [r]) e rs hbd.2.2.2.1 h (by omega) (fun j hj => by have := he (n + j) (by omega); rwa [← Nat.add_assoc, ← Nat.add_assoc] at this) (by omega)]
        simp only [Prod.mk.injEq, and_true]
        omega
theorem scanM_same {s t : ByteArray} {p q e : Nat} {rs : List Nat} (h : scanM s p = (e, 0, rs)) (hq' : q + (e - p) ≤ t.size) (he : ∀ j, j < e - p → byt t (q + j) = byt s (p + j)) : scanM t q = (q + (e - p), 0, rs) := by
  unfold scanM at h
  split at h
  · rename_i hc
    have hge := (scanGo_ge s s.size (p + 1) [] (by omega)).2.2
    rw [h] at hge
    have hlt := hge rfl
    simp only at hlt
    have h0 := he 0 (by omega)
    rw [Nat.add_zero, Nat.add_zero] at h0
    unfold scanM
    rw [if_pos ⟨by omega, by rw [h0]; exact hc.2⟩]
    rw [scan_same s t s.size (p + 1) (q + 1) t.size [] e rs (by omega) h (by omega) (fun j hj => by have := he (1 + j) (by omega); rwa [← Nat.add_assoc, ← Nat.add_assoc] at this) (by omega)]
    simp only [Prod.mk.injEq, and_true]
    omega
  · injection h with _ h; injection h with h _; cases h

theorem runTo_all (t : ByteArray) (w : Nat → Bool) : ∀ (n q : Nat), q + n ≤ t.size → (∀ j, j < n → w (byt t (q + j)) = true) → runTo t w q = runTo t w (q + n)
  | 0, q, _, _ => rfl
  | n + 1, q, hq', h => by
    have h0 := h 0 (by omega)
    rw [Nat.add_zero] at h0
    rw [runTo_step (by omega) h0, runTo_all t w n (q + 1) (by omega) (fun j hj => by have := h (1 + j) (by omega); rwa [← Nat.add_assoc] at this)]
    congr 1; omega
theorem runTo_same {s t : ByteArray} {w : Nat → Bool} {p q e : Nat} (_ : p ≤ s.size) (h : runTo s w p = e) (hq' : q + (e - p) ≤ t.size) (he : ∀ j, j < e - p → byt t (q + j) = byt s (p + j)) (ht : q + (e - p) = t.size ∨ w (byt t (q + (e - p))) = false) : runTo t w q = q + (e - p) := by
  have hge := runTo_ge s w p
  rw [runTo_all t w (e - p) q hq' (fun j hj => by rw [he j hj]; exact runTo_in s w p (p + j) (by omega) (by omega))]
  rcases ht with h1 | h1
  · exact runTo_end (by omega)
  · exact runTo_stop h1
theorem sub_same {s t : ByteArray} {p q e : Nat} (hpe : p ≤ e) (hs : e ≤ s.size) (hq' : q + (e - p) ≤ t.size) (he : ∀ j, j < e - p → byt t (q + j) = byt s (p + j)) : sub t q (q + (e - p)) = sub s p e := by
  refine List.ext_getElem (by rw [sub_len _ _ _ hq', sub_len _ _ _ hs]; omega) fun i h1 h2 => ?_
  rw [sub_len _ _ _ hs] at h2
  have e1 : (sub t q (q + (e - p)))[i]'h1 = t[q + i]'(by omega) := by
    simp only [sub, Array.getElem_toList]
    exact ByteArray.getElem_extract ..
  have h2' : i < (sub s p e).length := by rw [sub_len _ _ _ hs]; exact h2
  have e2 : (sub s p e)[i]'h2' = s[p + i]'(by omega) := by
    simp only [sub, Array.getElem_toList]
    exact ByteArray.getElem_extract ..
  rw [e1, e2]
  have := he i h2
  rw [byt_eq t (q + i) (by omega), byt_eq s (p + i) (by omega)] at this
  exact UInt8.toNat_inj.1 this
/-- a token that stands at q as it stood at p, where what follows does not belong to it -/
theorem oneM_same {s t : ByteArray} {p q kd e : Nat} (hp : p < s.size) (h : oneM s p = (kd, e, 0)) (hq' : q + (e - p) ≤ t.size) (he : ∀ j, j < e - p → byt t (q + j) = byt s (p + j))
    (ht : q + (e - p) = t.size ∨ byt t (q + (e - p)) = 44 ∨ (e < s.size ∧ byt t (q + (e - p)) = byt s e)) : oneM t q = (kd, q + (e - p), 0) := by
  have hbd := oneM_bd s p hp
  rw [h] at hbd
  simp only at hbd
  obtain ⟨hpe, hes, _, hb4⟩ := hbd
  have hlt := (hb4 trivial).1
  have h0 := he 0 (by omega)
  rw [Nat.add_zero, Nat.add_zero] at h0
  have htw : ∀ w : Nat → Bool, w 44 = false → runTo s w p = e → q + (e - p) = t.size ∨ w (byt t (q + (e - p))) = false := by
    intro w hw hr
    rcases ht with h1 | h1 | ⟨h1, h2⟩
    · exact .inl h1
    · right; rw [h1]; exact hw
    · right
      rw [h2, ← hr]
      exact runTo_out s w p (by omega) (by omega)
  unfold oneM at h ⊢
  simp only at h ⊢
  rw [h0]
  by_cases c1 : signM (byt s p) ≠ 0
  · rw [if_pos c1] at h ⊢
    injection h with h1 h; injection h with h2 _
    rw [h1, ← h2]
    simp only [Prod.mk.injEq, and_true, true_and]
    omega
  · rw [if_neg c1] at h ⊢
    by_cases c2 : isBlank (byt s p) = true
    · rw [if_pos c2] at h ⊢
      injection h with h1 h; injection h with h2 _
      rw [h1, runTo_same (by omega) h2 hq' he (htw _ rfl h2)]
    · rw [if_neg c2] at h ⊢
      by_cases c3 : byt s p = 34
      · rw [if_pos c3] at h ⊢
        injection h with h1 h; injection h with h2 h3
        have hsc : scanM s p = (e, 0, (scanM s p).2.2) := by rw [← h2, ← h3]
        rw [scanM_same hsc hq' he, h1]
      · rw [if_neg c3] at h ⊢
        by_cases c4 : byt s p = 45 ∨ 48 ≤ byt s p ∧ byt s p ≤ 57
        · rw [if_pos c4] at h ⊢
          split at h
          · rename_i h5
            injection h with _ h; injection h with _ h; exact absurd h h5
          · rename_i h5
            injection h with h1 h; injection h with h2 _
            have hr := runTo_same (by omega) h2 hq' he (htw _ rfl h2)
            rw [hr, sub_same hpe hes hq' he]
            rw [h2] at h5
            rw [if_neg h5, h1]
        · rw [if_neg c4] at h ⊢
          split at h
          · rename_i h5
            injection h with h1 h; injection h with h2 _
            have hr := runTo_same (by omega) h2 hq' he (htw _ rfl h2)
            rw [hr, sub_same hpe hes hq' he]
            rw [h2] at h5 h1
            rw [if_pos h5, h1]
          · injection h with _ h; injection h with _ h; cases h
end Go.Proofs.YtmomildkopainaaDoor

namespace Go.Proofs.YtmomildkopainaaDoor
open Go.RowKit

abbrev Tok := Nat × Nat × Nat
def toksL (s : ByteArray) : Nat → Nat → List Tok × Nat × Int
  | 0, p => ([], p, 0)
  | f + 1, p =>
    if p < s.size then
      (if (oneM s p).2.2 ≠ 0 then ([], (oneM s p).2.1, (oneM s p).2.2) else (((oneM s p).1, p, (oneM s p).2.1) :: (toksL s f (oneM s p).2.1).1, (toksL s f (oneM s p).2.1).2))
    else ([], p, 0)
theorem toksGo_L (s : ByteArray) : ∀ (f p : Nat) (acc : List Tok), toksGo s f p acc = (acc ++ (toksL s f p).1, (toksL s f p).2)
  | 0, p, acc => by simp [toksGo, toksL]
  | f + 1, p, acc => by
    unfold toksGo toksL
    by_cases hp : p < s.size
    · rw [if_pos hp, if_pos hp]
      by_cases he : (oneM s p).2.2 ≠ 0
      · rw [if_pos he, if_pos he]; simp
      · rw [if_neg he, if_neg he, toksGo_L s f]
        simp
    · rw [if_neg hp, if_neg hp]; simp
/-- what Tokens answers -/
def tokensM (s : ByteArray) : List Tok × Nat × Int :=
  if 65536 < s.size then ([], 0, 3) else if (toksM s).2.2 ≠ 0 then ([], (toksM s).2.1, (toksM s).2.2) else ((toksM s).1, s.size, 0)

def Chain : List Tok → Nat → Nat → Prop
  | [], a, b => a = b
  | x :: l, a, b => x.2.1 = a ∧ a < x.2.2 ∧ x.2.2 ≤ b ∧ 1 ≤ x.1 ∧ x.1 ≤ 12 ∧ Chain l x.2.2 b
theorem Chain.le : ∀ {l : List Tok} {a b : Nat}, Chain l a b → a ≤ b
  | [], _, _, h => Nat.le_of_eq h
  | _ :: _, _, _, h => by have := Chain.le h.2.2.2.2.2; have := h.2.1; omega
theorem toksL_chain (s : ByteArray) : ∀ (f p : Nat), p ≤ s.size → s.size ≤ p + f → (toksL s f p).2.1 ≤ s.size ∧ ((toksL s f p).2.2 = 0 → (toksL s f p).2.1 = s.size ∧ Chain (toksL s f p).1 p s.size)
  | 0, p, hp, hf => ⟨hp, fun _ => ⟨by simp only [toksL]; omega, by simp only [toksL, Chain]; omega⟩⟩
  | f + 1, p, hp, hf => by
    unfold toksL
    by_cases h : p < s.size
    · rw [if_pos h]
      obtain ⟨b1, b2, b3, b4⟩ := oneM_bd s p h
      by_cases he : (oneM s p).2.2 ≠ 0
      · rw [if_pos he]; exact ⟨b2, fun h => absurd h he⟩
      · rw [if_neg he]
        have b5 := b4 (by omega)
        obtain ⟨c1, c2⟩ := toksL_chain s f (oneM s p).2.1 b2 (by omega)
        refine ⟨c1, fun h0 => ?_⟩
        obtain ⟨d1, d2⟩ := c2 h0
        exact ⟨d1, rfl, b5.1, b2, b5.2, b3, d2⟩
    · rw [if_neg h]; exact ⟨hp, fun _ => ⟨by simp only; omega, by simp only [Chain]; omega⟩⟩

theorem kind_blank {s : ByteArray} {p : Nat} (h : (oneM s p).1 = 1) : isBlank (byt s p) = true ∧ (oneM s p).2.1 = runTo s isBlank p := by
  unfold oneM at h ⊢
  have hb := signM_bd (byt s p)
  have hw := wordM_bd (sub s p (runTo s isLet p))
  simp only at h ⊢
  by_cases c1 : signM (byt s p) ≠ 0
  · rw [if_pos c1] at h; simp only at h; omega
  · rw [if_neg c1] at h ⊢
    by_cases c2 : isBlank (byt s p) = true
    · rw [if_pos c2]; exact ⟨c2, rfl⟩
    · rw [if_neg c2] at h
      by_cases c3 : byt s p = 34
      · rw [if_pos c3] at h; simp only at h; omega
      · rw [if_neg c3] at h
        by_cases c4 : byt s p = 45 ∨ 48 ≤ byt s p ∧ byt s p ≤ 57
        · rw [if_pos c4] at h
          split at h <;> simp only at h <;> omega
        · rw [if_neg c4] at h
          split at h <;> simp only at h <;> omega
/-- no two blanks side by side -/
def NB (l : List Tok) : Prop := ∀ i (h : i + 1 < l.length), ¬ ((l[i]'(by omega)).1 = 1 ∧ (l[i + 1]'h).1 = 1)
theorem toksL_head {s : ByteArray} {f p : Nat} (h : 0 < (toksL s f p).1.length) : ((toksL s f p).1[0]'h).1 = (oneM s p).1 ∧ p < s.size := by
  cases f with
  | zero => exact absurd h (by simp [toksL])
  | succ f =>
    by_cases hp : p < s.size
    · by_cases he : (oneM s p).2.2 ≠ 0
      · exact absurd h (by rw [toksL, if_pos hp, if_pos he]; simp)
      · have e : (toksL s (f + 1) p).1 = ((oneM s p).1, p, (oneM s p).2.1) :: (toksL s f (oneM s p).2.1).1 := by rw [toksL, if_pos hp, if_neg he]
        refine ⟨?_, hp⟩
        simp only [e, List.getElem_cons_zero]
    · exact absurd h (by rw [toksL, if_neg hp]; simp)
theorem toksL_nb (s : ByteArray) : ∀ (f p : Nat), p ≤ s.size → NB (toksL s f p).1
  | 0, p, _ => fun i h => absurd h (by simp [toksL])
  | f + 1, p, hps => by
    have ih := toksL_nb s f (oneM s p).2.1
    unfold toksL
    by_cases hp : p < s.size
    · rw [if_pos hp]
      by_cases he : (oneM s p).2.2 ≠ 0
      · rw [if_pos he]; exact fun i h => absurd h (by simp)
      · rw [if_neg he]
        have ih := ih (oneM_bd s p hp).2.1
        intro i h
        cases i with
        | succ i => exact ih i (by simpa using h)
        | zero =>
          simp only [List.getElem_cons_zero, Nat.zero_add, List.getElem_cons_succ]
          have hl : 0 < (toksL s f (oneM s p).2.1).1.length := by simpa using h
          obtain ⟨k1, k2⟩ := toksL_head hl
          rintro ⟨h1, h2⟩
          obtain ⟨m1, m2⟩ := kind_blank h1
          rw [k1] at h2
          have m3 := (kind_blank h2).1
          rw [m2] at m3 k2
          rw [runTo_out s isBlank p hps k2] at m3
          cases m3
    · rw [if_neg hp]; exact fun i h => absurd h (by simp)

theorem toksL_mem (s : ByteArray) : ∀ (f p : Nat), p ≤ s.size → ∀ x ∈ (toksL s f p).1, x.2.1 < x.2.2 ∧ x.2.2 ≤ s.size ∧ oneM s x.2.1 = (x.1, x.2.2, 0)
  | 0, p, _ => fun x h => by cases h
  | f + 1, p, hps => by
    have ih := toksL_mem s f (oneM s p).2.1
    unfold toksL
    by_cases hp : p < s.size
    · rw [if_pos hp]
      obtain ⟨b1, b2, b3, b4⟩ := oneM_bd s p hp
      by_cases he : (oneM s p).2.2 ≠ 0
      · rw [if_pos he]; exact fun x h => by cases h
      · rw [if_neg he]
        intro x hx
        rcases List.mem_cons.1 hx with rfl | hx
        · have e0 : (oneM s p).2.2 = 0 := by omega
          exact ⟨(b4 e0).1, b2, by rw [← e0]⟩
        · exact ih b2 x hx
    · rw [if_neg hp]; exact fun x h => by cases h
/-- each token, alone -/
theorem toks_alone {s : ByteArray} {k a b : Nat} (hab : a < b) (hb : b ≤ s.size) (h : oneM s a = (k, b, 0)) : toksM (s.extract a b) = ([(k, 0, b - a)], b - a, 0) := by
  have hz : (s.extract a b).size = b - a := by rw [ByteArray.size_extract]; omega
  have ho := oneM_same (t := s.extract a b) (q := 0) (by omega) h (by omega) (fun j hj => by rw [Nat.zero_add]; exact byt_sub s a b j hb (by omega)) (.inl (by omega))
  rw [Nat.zero_add] at ho
  unfold toksM
  rw [toksGo_L, hz]
  obtain ⟨f, hf⟩ : ∃ f, b - a = f + 1 := ⟨b - a - 1, by omega⟩
  have hL : toksL (s.extract a b) (b - a) 0 = ([(k, 0, b - a)], b - a, 0) := by
    rw [hf, toksL, if_pos (by omega), ho]
    simp only
    rw [if_neg (by omega)]
    have he : toksL (s.extract a b) f (b - a) = ([], b - a, 0) := by
      cases f with
      | zero => rfl
      | succ f => rw [toksL, if_neg (by omega)]
    rw [he, ← hf]
  rw [hL]; rfl

/-- the front of a text, behind which a comma stands -/
theorem toksL_front {a t : ByteArray} (ht : a.size < t.size) (hc : byt t a.size = 44) (he : ∀ j, j < a.size → byt t j = byt a j) :
    ∀ (f p : Nat), p ≤ a.size → a.size ≤ p + f → (toksL a f p).2.2 = 0 → ∀ g, t.size ≤ p + g → ∃ g', t.size ≤ a.size + g' ∧ toksL t g p = ((toksL a f p).1 ++ (toksL t g' a.size).1, (toksL t g' a.size).2)
  | 0, p, hp, hf, _, g, hg => by
    obtain rfl : p = a.size := by omega
    exact ⟨g, hg, by simp [toksL]⟩
  | f + 1, p, hp, hf, h0, g, hg => by
    by_cases h : p < a.size
    · obtain ⟨g, rfl⟩ : ∃ i, g = i + 1 := ⟨g - 1, by omega⟩
      obtain ⟨b1, b2, b3, b4⟩ := oneM_bd a p h
      by_cases hz : (oneM a p).2.2 ≠ 0
      · rw [toksL, if_pos h, if_pos hz] at h0; exact absurd h0 hz
      · have eA : toksL a (f + 1) p = (((oneM a p).1, p, (oneM a p).2.1) :: (toksL a f (oneM a p).2.1).1, (toksL a f (oneM a p).2.1).2) := by rw [toksL, if_pos h, if_neg hz]
        rw [eA] at h0 ⊢
        have e0 : (oneM a p).2.2 = 0 := by omega
        have b5 := (b4 e0).1
        have ho := oneM_same (t := t) (q := p) (kd := (oneM a p).1) (e := (oneM a p).2.1) h (by rw [← e0]) (by omega) (fun j hj => he (p + j) (by omega)) (by
          rw [show p + ((oneM a p).2.1 - p) = (oneM a p).2.1 by omega]
          rcases Nat.lt_or_ge (oneM a p).2.1 a.size with h1 | h1
          · exact .inr (.inr ⟨h1, he _ h1⟩)
          · right; left; rw [show (oneM a p).2.1 = a.size by omega]; exact hc)
        rw [show p + ((oneM a p).2.1 - p) = (oneM a p).2.1 by omega] at ho
        obtain ⟨g', h1, h2⟩ := toksL_front ht hc he f (oneM a p).2.1 b2 (by omega) h0 g (by omega)
        refine ⟨g', h1, ?_⟩
        rw [toksL, if_pos (by omega), ho]
        simp only
        rw [if_neg (by omega), h2]
        rfl
    · obtain rfl : p = a.size := by omega
      refine ⟨g, hg, ?_⟩
      have : toksL a (f + 1) a.size = ([], a.size, 0) := by rw [toksL, if_neg (by omega)]
      rw [this]; simp

section
variable {b t : ByteArray} {n : Nat} (hz : t.size = n + b.size) (hx : ∀ p, p ≤ b.size → b.extract p b.size = t.extract (n + p) t.size)
include hz hx
theorem byt_shift (p : Nat) (hp : p < b.size) : byt t (n + p) = byt b p := by
  have h1 := byt_sub b p b.size 0 (Nat.le_refl _) (by omega)
  have h2 := byt_sub t (n + p) t.size 0 (Nat.le_refl _) (by omega)
  rw [hx p (by omega)] at h1
  rw [h1] at h2
  simpa using h2.symm
theorem partM_shift (p : Nat) (hp : p < b.size) : partM t (n + p) = partM b p := by
  rw [← partM_sub t (n + p) (by omega), ← partM_sub b p hp, hx p (by omega)]
theorem scanGo_shift : ∀ (f p g : Nat) (acc : List Nat), p ≤ b.size → b.size ≤ p + f → t.size ≤ n + p + g → scanGo t g (n + p) acc = (n + (scanGo b f p acc).1, (scanGo b f p acc).2)
  | 0, p, g, acc, hp, hf, hg => by
    have h1 : scanGo t g (n + p) acc = (t.size, 2, acc) := by
      cases g with
      | zero => rfl
      | succ g => rw [scanGo, if_neg (by omega)]
    rw [h1, hz]; rfl
  | f + 1, p, g, acc, hp, hf, hg => by
    by_cases h : p < b.size
    · obtain ⟨g, rfl⟩ : ∃ i, g = i + 1 := ⟨g - 1, by omega⟩
      rw [scanGo, if_pos (by omega), scanGo, if_pos h, byt_shift hz hx p h, partM_shift hz hx p h]
      by_cases h34 : byt b p = 34
      · rw [if_pos h34, if_pos h34]; rfl
      · rw [if_neg h34, if_neg h34]
        cases hpm : partM b p with
        | none => rfl
        | some x =>
          obtain ⟨r, m⟩ := x
          have hbd := partM_bd h hpm
          have ih := scanGo_shift f (p + m) g (acc ++ [r]) hbd.2.2.2.1 (by omega) (by omega)
          rw [← Nat.add_assoc] at ih
          exact ih
    · have h1 : scanGo t g (n + p) acc = (t.size, 2, acc) := by
        cases g with
        | zero => rfl
        | succ g => rw [scanGo, if_neg (by omega)]
      rw [h1, scanGo, if_neg h, hz]
theorem scanM_shift (p : Nat) (hp : p < b.size) : scanM t (n + p) = (n + (scanM b p).1, (scanM b p).2) := by
  unfold scanM
  rw [byt_shift hz hx p hp]
  by_cases h : byt b p = 34
  · rw [if_pos ⟨by omega, h⟩, if_pos ⟨hp, h⟩]
    exact scanGo_shift hz hx b.size (p + 1) t.size [] (by omega) (by omega) (by omega)
  · rw [if_neg (fun hh => h hh.2), if_neg (fun hh => h hh.2)]
theorem runTo_shift (w : Nat → Bool) (p : Nat) (hp : p ≤ b.size) : runTo t w (n + p) = n + runTo b w p := by
  have h1 := runTo_ge b w p
  have h2 := runTo_le b w p hp
  have h3 := runTo_same (t := t) (q := n + p) hp (w := w) rfl (by omega) (fun j hj => by rw [Nat.add_assoc]; exact byt_shift hz hx (p + j) (by omega)) (by
    rcases Nat.lt_or_ge (runTo b w p) b.size with h | h
    · right
      rw [show n + p + (runTo b w p - p) = n + runTo b w p by omega, byt_shift hz hx _ h]
      exact runTo_out b w p hp h
    · left; omega)
  rw [h3]; omega
theorem oneM_shift (p : Nat) (hp : p < b.size) : oneM t (n + p) = ((oneM b p).1, n + (oneM b p).2.1, (oneM b p).2.2) := by
  have hsub : ∀ w, sub t (n + p) (n + runTo b w p) = sub b p (runTo b w p) := fun w => by
    have h1 := runTo_ge b w p
    have h2 := runTo_le b w p (by omega)
    have h3 := sub_same (t := t) (q := n + p) h1 h2 (by omega) (fun j hj => by rw [Nat.add_assoc]; exact byt_shift hz hx (p + j) (by omega))
    rwa [show n + p + (runTo b w p - p) = n + runTo b w p by omega] at h3
  unfold oneM
  simp only
  rw [byt_shift hz hx p hp, runTo_shift hz hx _ p (by omega), runTo_shift hz hx _ p (by omega), runTo_shift hz hx _ p (by omega), hsub, hsub, scanM_shift hz hx p hp]
  repeat' split
  all_goals (first | rfl | simp only [Prod.mk.injEq, and_true, true_and]; omega)
def shiftT (n : Nat) (x : Tok) : Tok := (x.1, n + x.2.1, n + x.2.2)
theorem toksL_shift : ∀ (f p g : Nat), p ≤ b.size → b.size ≤ p + f → t.size ≤ n + p + g → toksL t g (n + p) = ((toksL b f p).1.map (shiftT n), n + (toksL b f p).2.1, (toksL b f p).2.2)
  | 0, p, g, hp, hf, hg => by
    have h1 : toksL t g (n + p) = ([], n + p, 0) := by
      cases g with
      | zero => rfl
      | succ g => rw [toksL, if_neg (by omega)]
    rw [h1]; rfl
  | f + 1, p, g, hp, hf, hg => by
    by_cases h : p < b.size
    · obtain ⟨g, rfl⟩ : ∃ i, g = i + 1 := ⟨g - 1, by omega⟩
      obtain ⟨b1, b2, b3, b4⟩ := oneM_bd b p h
      rw [toksL, if_pos (by omega), toksL, if_pos h, oneM_shift hz hx p h]
      simp only
      by_cases he : (oneM b p).2.2 ≠ 0
      · rw [if_pos he, if_pos he]; rfl
      · rw [if_neg he, if_neg he]
        have b5 := (b4 (by omega)).1
        rw [toksL_shift f (oneM b p).2.1 g b2 (by omega) (by omega)]
        rfl
    · have h1 : toksL t g (n + p) = ([], n + p, 0) := by
        cases g with
        | zero => rfl
        | succ g => rw [toksL, if_neg (by omega)]
      rw [h1, toksL, if_neg h]; rfl
end
/-- two texts with a comma between them -/
theorem toks_join {a b t : ByteArray} (hz : t.size = a.size + 1 + b.size) (hx : ∀ p, p ≤ b.size → b.extract p b.size = t.extract (a.size + 1 + p) t.size) (hc : byt t a.size = 44) (he : ∀ j, j < a.size → byt t j = byt a j) (h0 : (toksM a).2.2 = 0) :
    toksM t = ((toksM a).1 ++ (6, a.size, a.size + 1) :: (toksM b).1.map (shiftT (a.size + 1)), a.size + 1 + (toksM b).2.1, (toksM b).2.2) := by
  unfold toksM at h0 ⊢
  rw [toksGo_L] at h0 ⊢
  rw [toksGo_L, toksGo_L]
  simp only [List.nil_append] at h0 ⊢
  obtain ⟨g, hg, h1⟩ := toksL_front (by omega) hc he a.size 0 (Nat.zero_le _) (by omega) h0 t.size (by omega)
  obtain ⟨g, rfl⟩ : ∃ i, g = i + 1 := ⟨g - 1, by omega⟩
  have ho : oneM t a.size = (6, a.size + 1, 0) := by unfold oneM; rw [hc]; rfl
  have h2 : toksL t (g + 1) a.size = ((6, a.size, a.size + 1) :: (toksL t g (a.size + 1)).1, (toksL t g (a.size + 1)).2) := by
    rw [toksL, if_pos (by omega), ho]
    simp only
    rw [if_neg (by omega)]
  have h3 := toksL_shift hz hx b.size 0 g (Nat.zero_le _) (by omega) (by omega)
  rw [Nat.add_zero] at h3
  rw [h1, h2, h3]
end Go.Proofs.YtmomildkopainaaDoor
