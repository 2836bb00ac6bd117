/-
  PLAIN MATHEMATICS: the tokens of a text of JSON.
-/
import Derived.Test.YtleabaldjlbnlaaDoorUnqB
import Derived.Test.YtleabaldjlbnlaaDoorNumMath
import Derived.Test.YtleabaldjlbnlaaDoorNumParse
namespace Go.Proofs.YtleabaldjlbnlaaDoor
open Go.RowKit

def isBlank (c : Nat) : Bool := c == 32 || c == 9 || c == 10 || c == 13
def isNum (c : Nat) : Bool := c == 45 || c == 43 || c == 46 || (decide (48 ≤ c) && decide (c ≤ 57)) || c == 101 || c == 69
def isLet (c : Nat) : Bool := decide (97 ≤ c) && decide (c ≤ 122)
/-- where the bytes of a set end, from p on -/
def runM (s : ByteArray) (q : Nat → Bool) : Nat → Nat → Nat
  | 0, p => p
  | f + 1, p => if p < s.size ∧ q (byt s p) = true then runM s q f (p + 1) else p
def runTo (s : ByteArray) (q : Nat → Bool) (p : Nat) : Nat := runM s q (s.size - p) p
theorem runM_step {s : ByteArray} {q : Nat → Bool} {f p : Nat} (h : p < s.size) (h1 : q (byt s p) = true) : runM s q (f + 1) p = runM s q f (p + 1) := by rw [runM, if_pos ⟨h, h1⟩]
theorem runTo_step {s : ByteArray} {q : Nat → Bool} {p : Nat} (h : p < s.size) (h1 : q (byt s p) = true) : runTo s q p = runTo s q (p + 1) := by
  unfold runTo
  rw [show s.size - p = (s.size - (p + 1)) + 1 by omega, runM_step h h1]
theorem runTo_stop {s : ByteArray} {q : Nat → Bool} {p : Nat} (h1 : q (byt s p) = false) : runTo s q p = p := by
  unfold runTo
  cases s.size - p with
  | zero => rfl
  | succ f => rw [runM, if_neg (fun h => by rw [h1] at h; exact absurd h.2 (by decide))]
theorem runTo_end {s : ByteArray} {q : Nat → Bool} {p : Nat} (h : s.size ≤ p) : runTo s q p = p := by
  unfold runTo
  rw [show s.size - p = 0 by omega]; rfl
theorem runM_bd (s : ByteArray) (q : Nat → Bool) : ∀ f p, p ≤ runM s q f p ∧ (p ≤ s.size → runM s q f p ≤ s.size) ∧ (∀ j, p ≤ j → j < runM s q f p → q (byt s j) = true)
  | 0, p => ⟨Nat.le_refl _, fun h => h, fun j h1 h2 => by unfold runM at h2; omega⟩
  | f + 1, p => by
    unfold runM
    split
    · rename_i h
      obtain ⟨h1, h2, h3⟩ := runM_bd s q f (p + 1)
      refine ⟨by omega, fun _ => h2 h.1, fun j k1 k2 => ?_⟩
      by_cases hj : j = p
      · rw [hj]; exact h.2
      · exact h3 j (by omega) k2
    · exact ⟨Nat.le_refl _, fun h => h, fun j h1 h2 => by omega⟩
theorem runTo_ge (s : ByteArray) (q : Nat → Bool) (p : Nat) : p ≤ runTo s q p := (runM_bd s q _ p).1
theorem runTo_le (s : ByteArray) (q : Nat → Bool) (p : Nat) (h : p ≤ s.size) : runTo s q p ≤ s.size := (runM_bd s q _ p).2.1 h
theorem runTo_in (s : ByteArray) (q : Nat → Bool) (p j : Nat) (h1 : p ≤ j) (h2 : j < runTo s q p) : q (byt s j) = true := (runM_bd s q _ p).2.2 j h1 h2
theorem runM_out (s : ByteArray) (q : Nat → Bool) : ∀ f p, s.size ≤ p + f → runM s q f p < s.size → q (byt s (runM s q f p)) = false
  | 0, p, h, h2 => by unfold runM at h2; omega
  | f + 1, p, h, h2 => by
    unfold runM at h2 ⊢
    split
    · rename_i hc
      rw [if_pos hc] at h2
      exact runM_out s q f (p + 1) (by omega) h2
    · rename_i hc
      rw [if_neg hc] at h2
      cases hq1 : q (byt s p) with
      | false => rfl
      | true => exact absurd ⟨h2, hq1⟩ hc
theorem runTo_out (s : ByteArray) (q : Nat → Bool) (p : Nat) (hp : p ≤ s.size) (h : runTo s q p < s.size) : q (byt s (runTo s q p)) = false := runM_out s q _ p (by omega) h

/-- the kind of a sign; 0: none -/
def signM (c : Nat) : Nat := if c = 123 then 2 else if c = 125 then 3 else if c = 91 then 4 else if c = 93 then 5 else if c = 44 then 6 else if c = 58 then 7 else 0
def wordM (l : Bs) : Nat := if l = [116, 114, 117, 101] then 10 else if l = [102, 97, 108, 115, 101] then 11 else if l = [110, 117, 108, 108] then 12 else 0
/-- the bytes from a to b -/
def sub (s : ByteArray) (a b : Nat) : Bs := (s.extract a b).data.toList
/-- the token at p: kind, end, error -/
def oneM (s : ByteArray) (p : Nat) : Nat × Nat × Int :=
  let c := byt s p
  if signM c ≠ 0 then (signM c, p + 1, 0)
  else if isBlank c = true then (1, runTo s isBlank p, 0)
  else if c = 34 then (8, (scanM s p).1, (scanM s p).2.1)
  else if c = 45 ∨ 48 ≤ c ∧ c ≤ 57 then
    (if (parseM (sub s p (runTo s isNum p))).2 ≠ 0 then (0, p, (parseM (sub s p (runTo s isNum p))).2) else (9, runTo s isNum p, 0))
  else if wordM (sub s p (runTo s isLet p)) ≠ 0 then (wordM (sub s p (runTo s isLet p)), runTo s isLet p, 0) else (0, p, 2)
/-- all tokens from p on: those ahead of an error; where; the error -/
def toksGo (s : ByteArray) : Nat → Nat → List (Nat × Nat × Nat) → List (Nat × Nat × Nat) × Nat × Int
  | 0, p, acc => (acc, p, 0)
  | f + 1, p, acc =>
    if p < s.size then
      (if (oneM s p).2.2 ≠ 0 then (acc, (oneM s p).2.1, (oneM s p).2.2) else toksGo s f (oneM s p).2.1 (acc ++ [((oneM s p).1, p, (oneM s p).2.1)]))
    else (acc, p, 0)
def toksM (s : ByteArray) : List (Nat × Nat × Nat) × Nat × Int := toksGo s s.size 0 []

theorem scanGo_ge (s : ByteArray) : ∀ (f p : Nat) (acc : List Nat), p ≤ s.size → p ≤ (scanGo s f p acc).1 ∧ (scanGo s f p acc).1 ≤ s.size ∧ ((scanGo s f p acc).2.1 = 0 → p < (scanGo s f p acc).1)
  | 0, p, acc, h => ⟨h, Nat.le_refl _, fun h => by unfold scanGo at h; cases h⟩
  | f + 1, p, acc, h => by
    unfold scanGo
    by_cases hp : p < s.size
    · rw [if_pos hp]
      by_cases h34 : byt s p = 34
      · rw [if_pos h34]; exact ⟨by simp only; omega, hp, fun _ => by simp only; omega⟩
      · rw [if_neg h34]
        cases hpm : partM s p with
        | none => exact ⟨Nat.le_refl _, Nat.le_of_lt hp, fun h => by cases h⟩
        | some x =>
          obtain ⟨r, n⟩ := x
          have hbd := partM_bd hp hpm
          obtain ⟨a1, a2, a3⟩ := scanGo_ge s f (p + n) (acc ++ [r]) hbd.2.2.2.1
          exact ⟨by simp only; omega, a2, fun h => by have := a3 h; simp only; omega⟩
    · rw [if_neg hp]; exact ⟨h, Nat.le_refl _, fun h => by cases h⟩
theorem scanM_ge (s : ByteArray) (p : Nat) (h : p ≤ s.size) : p ≤ (scanM s p).1 ∧ (scanM s p).1 ≤ s.size ∧ ((scanM s p).2.1 = 0 → p < (scanM s p).1) := by
  unfold scanM
  split
  · rename_i hc
    obtain ⟨a1, a2, a3⟩ := scanGo_ge s s.size (p + 1) [] hc.1
    exact ⟨by omega, a2, fun h => by have := a3 h; omega⟩
  · exact ⟨Nat.le_refl _, h, fun h => by cases h⟩
theorem wordM_len {l : Bs} (h : wordM l ≠ 0) : 0 < l.length := by
  unfold wordM at h
  split at h
  · subst l; decide
  · split at h
    · subst l; decide
    · split at h
      · subst l; decide
      · exact absurd rfl h
theorem sub_len (s : ByteArray) (a b : Nat) (h : b ≤ s.size) : (sub s a b).length = b - a := by
  unfold sub
  rw [Array.length_toList]
  show (s.extract a b).size = _
  rw [ByteArray.size_extract]; omega
theorem signM_bd (c : Nat) : signM c ≤ 7 ∧ (signM c ≠ 0 → 2 ≤ signM c) := by
  unfold signM
  repeat' split
  all_goals (exact ⟨by omega, fun _ => by omega⟩)
theorem wordM_bd (l : Bs) : wordM l ≤ 12 ∧ (wordM l ≠ 0 → 10 ≤ wordM l) := by
  unfold wordM
  repeat' split
  all_goals (exact ⟨by omega, fun _ => by omega⟩)
theorem oneM_bd (s : ByteArray) (p : Nat) (h : p < s.size) : p ≤ (oneM s p).2.1 ∧ (oneM s p).2.1 ≤ s.size ∧ (oneM s p).1 ≤ 12 ∧ ((oneM s p).2.2 = 0 → p < (oneM s p).2.1 ∧ 1 ≤ (oneM s p).1) := by
  unfold oneM
  have hb := signM_bd (byt s p)
  simp only
  split
  · rename_i hc; exact ⟨by simp only; omega, h, by simp only; omega, fun _ => ⟨by simp only; omega, by simp only; omega⟩⟩
  · split
    · rename_i hc
      have h1 := runTo_step h hc
      have h2 := runTo_ge s isBlank (p + 1)
      have h3 := runTo_le s isBlank p (by omega)
      exact ⟨by simp only; omega, h3, by simp only; omega, fun _ => ⟨by simp only; omega, by simp only; omega⟩⟩
    · split
      · obtain ⟨a1, a2, a3⟩ := scanM_ge s p (by omega)
        exact ⟨a1, a2, by simp only; omega, fun h => ⟨a3 h, by simp only; omega⟩⟩
      · split
        · rename_i hc
          have hn : isNum (byt s p) = true := by
            unfold isNum
            simp only [Bool.or_eq_true, Bool.and_eq_true, beq_iff_eq, decide_eq_true_eq]
            omega
          have h1 := runTo_step h hn
          have h2 := runTo_ge s isNum (p + 1)
          have h3 := runTo_le s isNum p (by omega)
          split
          · rename_i he; exact ⟨Nat.le_refl _, by simp only; omega, by simp only; omega, fun h => absurd h he⟩
          · exact ⟨by simp only; omega, h3, by simp only; omega, fun _ => ⟨by simp only; omega, by simp only; omega⟩⟩
        · have h2 := runTo_ge s isLet p
          have h3 := runTo_le s isLet p (by omega)
          have hw := wordM_bd (sub s p (runTo s isLet p))
          split
          · rename_i hc
            have h4 := wordM_len hc
            rw [sub_len s p _ h3] at h4
            exact ⟨h2, h3, hw.1, fun _ => ⟨by simp only; omega, by simp only; omega⟩⟩
          · exact ⟨Nat.le_refl _, by simp only; omega, by simp only; omega, fun h => by cases h⟩
end Go.Proofs.YtleabaldjlbnlaaDoor
