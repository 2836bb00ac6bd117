/-
  PLAIN MATHEMATICS, NO PROGRAM: widths of runes, lines of a text, the way from a byte to its line and column and back.
-/
import Derived.Lib.DecodeN
import Derived.Laws.RangeAny
namespace Go.Proofs.YtfibmmmbpfnccaaGreatDoor

/-- how many bytes the rune at p has -/
def wd (s : ByteArray) (p : Nat) : Nat := (Utf8.decode s p).2
def byt (s : ByteArray) (p : Nat) : Nat := (s.get! p).toNat

theorem byt_lt (s : ByteArray) (p : Nat) : byt s p < 256 := (s.get! p).toNat_lt
theorem byt_eq (s : ByteArray) (p : Nat) (h : p < s.size) : byt s p = (s[p]'h).toNat := by
  unfold byt; rw [← get_at s p h]; rfl

theorem dec_eq (s : ByteArray) (i : Nat) : Utf8.decode s i = Lib.decodeN (s.size - i) (byt s i) (byt s (i + 1)) (byt s (i + 2)) (byt s (i + 3)) := Lib.decode_at s i

theorem wd_pos (s : ByteArray) (p : Nat) : 1 ≤ wd s p := by
  unfold wd; rw [dec_eq]; unfold Lib.decodeN; repeat' split
  all_goals simp
theorem wd_le4 (s : ByteArray) (p : Nat) : wd s p ≤ 4 := by
  unfold wd; rw [dec_eq]; unfold Lib.decodeN; repeat' split
  all_goals simp
theorem wd_le (s : ByteArray) (p : Nat) (h : p < s.size) : p + wd s p ≤ s.size := by
  unfold wd; rw [dec_eq]; unfold Lib.decodeN; repeat' split
  all_goals (simp only; try omega)
/-- the bytes of a rune behind its first one are 128 or more -/
theorem wd_cont (s : ByteArray) (p j : Nat) (h1 : 1 ≤ j) (h2 : j < wd s p) : 128 ≤ byt s (p + j) := by
  revert h2
  unfold wd; rw [dec_eq]
  generalize s.size - p = n
  have hj : ∀ k, j = k → byt s (p + k) = byt s (p + j) := fun k hk => by rw [hk]
  have e1 := hj 1; have e2 := hj 2; have e3 := hj 3
  generalize byt s (p + j) = b at *
  generalize byt s (p + 1) = b1 at *
  generalize byt s (p + 2) = b2 at *
  generalize byt s (p + 3) = b3 at *
  generalize byt s p = b0 at *
  unfold Lib.decodeN
  repeat' split
  all_goals (intro h2; simp only at h2; omega)

theorem dec_low (s : ByteArray) (p : Nat) (h : byt s p < 128) : Utf8.decode s p = (byt s p, 1) := by
  rw [dec_eq]; unfold Lib.decodeN; rw [if_pos h]
theorem dec_high (s : ByteArray) (p : Nat) (h : 128 ≤ byt s p) : 128 ≤ (Utf8.decode s p).1 := by
  rw [dec_eq]; unfold Lib.decodeN; rw [if_neg (by omega)]; repeat' split
  all_goals (simp only; omega)
theorem dec_is (s : ByteArray) (p c : Nat) (hc : c < 128) : (Utf8.decode s p).1 = c ↔ byt s p = c := by
  by_cases h : byt s p < 128
  · rw [dec_low s p h]
  · have := dec_high s p (by omega)
    omega
theorem wd_low (s : ByteArray) (p : Nat) (h : byt s p < 128) : wd s p = 1 := by unfold wd; rw [dec_low s p h]

/-- a cut of a text that ends with the text, or behind a line feed: its runes are the text's -/
theorem dec_cut (s : ByteArray) (f t i : Nat) (ht : t ≤ s.size) (hn : t = s.size ∨ byt s (t - 1) < 128) (hi : f + i < t) : Utf8.decode (s.extract f t) i = Utf8.decode s (f + i) := by
  have hz : (s.extract f t).size = t - f := by rw [ByteArray.size_extract]; omega
  have hb : ∀ j, byt (s.extract f t) j = if f + j < t then byt s (f + j) else 0 := by
    intro j
    by_cases hj : f + j < t
    · rw [if_pos hj, byt_eq _ j (by omega), byt_eq _ (f + j) (by omega), ByteArray.getElem_extract]
    · rw [if_neg hj]
      unfold byt
      rw [show (s.extract f t).get! j = (s.extract f t).data[j]! from rfl, Array.getElem!_eq_getD, Array.getD]
      rw [dif_neg (by have : (s.extract f t).data.size = t - f := hz; omega)]
      rfl
  rw [dec_eq, dec_eq, hz, hb, hb, hb, hb]
  have e1 : f + (i + 1) = f + i + 1 := by omega
  have e2 : f + (i + 2) = f + i + 2 := by omega
  have e3 : f + (i + 3) = f + i + 3 := by omega
  rw [e1, e2, e3]
  have hn' : ∀ k, f + i + k + 1 = t → t ≠ s.size → byt s (f + i + k) < 128 := by
    intro k hk hne
    have := hn.resolve_left hne
    rw [← hk] at this; simpa using this
  have n0 := hn' 0; have n1 := hn' 1; have n2 := hn' 2
  simp only [Nat.add_zero] at n0
  rw [if_pos hi]
  generalize byt s (f + i + 1) = b1 at *
  generalize byt s (f + i + 2) = b2 at *
  generalize byt s (f + i + 3) = b3 at *
  generalize byt s (f + i) = b0 at *
  generalize hp : f + i = p at *
  have hsz : t - f - i = t - p := by omega
  rw [hsz]
  by_cases he : t = s.size
  · subst he
    by_cases c1 : p + 1 < s.size
    · rw [if_pos c1]
      by_cases c2 : p + 2 < s.size
      · rw [if_pos c2]
        by_cases c3 : p + 3 < s.size
        · rw [if_pos c3]
        · rw [if_neg c3]
          unfold Lib.decodeN
          have : ¬ (3 < s.size - p) := by omega
          simp [this]
      · rw [if_neg c2, if_neg (by omega)]
        unfold Lib.decodeN
        have h2 : ¬ (2 < s.size - p) := by omega
        simp [h2]
    · rw [if_neg c1, if_neg (by omega), if_neg (by omega)]
      unfold Lib.decodeN
      have h1 : ¬ (1 < s.size - p) := by omega
      simp [h1]
  · by_cases c1 : p + 1 < t
    · rw [if_pos c1]
      by_cases c2 : p + 2 < t
      · rw [if_pos c2]
        by_cases c3 : p + 3 < t
        · rw [if_pos c3]
          have m1 : 3 < t - p := by omega
          have m2 : 3 < s.size - p := by omega
          unfold Lib.decodeN
          have a1 : (1 < t - p) = True := by simp; omega
          have a2 : (2 < t - p) = True := by simp; omega
          have a3 : (1 < s.size - p) = True := by simp; omega
          have a4 : (2 < s.size - p) = True := by simp; omega
          simp only [a1, a2, a3, a4, m1, m2]
        · have k := n2 (by omega) he
          rw [if_neg c3]
          have m1 : ¬ 3 < t - p := by omega
          unfold Lib.decodeN
          have a1 : (1 < t - p) = True := by simp; omega
          have a2 : (2 < t - p) = True := by simp; omega
          have a3 : (1 < s.size - p) = True := by simp; omega
          have a4 : (2 < s.size - p) = True := by simp; omega
          have a5 : ¬ b2 / 64 = 2 := by omega
          simp only [a1, a2, a3, a4, m1, a5, false_and, and_false, true_and, if_false]
      · have k := n1 (by omega) he
        rw [if_neg c2, if_neg (by omega)]
        unfold Lib.decodeN
        have a1 : (1 < t - p) = True := by simp; omega
        have a2 : ¬ (2 < t - p) := by omega
        have a3 : (1 < s.size - p) = True := by simp; omega
        have a5 : ¬ b1 / 64 = 2 := by omega
        simp only [a5, a2, false_and, and_false, if_false]
    · have k := n0 (by omega) he
      unfold Lib.decodeN
      rw [if_pos k, if_pos k]

/-! ### lines -/

/-- where the line of byte p begins -/
def lst (s : ByteArray) : Nat → Nat
  | 0 => 0
  | p + 1 => if byt s p = 10 then p + 1 else lst s p
/-- how many line feeds stand ahead of byte p -/
def lfs (s : ByteArray) : Nat → Nat
  | 0 => 0
  | p + 1 => if byt s p = 10 then lfs s p + 1 else lfs s p
/-- the lines that end with a line feed ahead of byte p -/
def lnsTo (s : ByteArray) : Nat → List (Nat × Nat)
  | 0 => []
  | p + 1 => if byt s p = 10 then lnsTo s p ++ [(lst s p, p + 1)] else lnsTo s p
def lns (s : ByteArray) : List (Nat × Nat) := lnsTo s s.size ++ [(lst s s.size, s.size)]

theorem lst_succ (s : ByteArray) (p : Nat) : lst s (p + 1) = if byt s p = 10 then p + 1 else lst s p := rfl
theorem lfs_succ (s : ByteArray) (p : Nat) : lfs s (p + 1) = if byt s p = 10 then lfs s p + 1 else lfs s p := rfl
theorem lnsTo_succ (s : ByteArray) (p : Nat) : lnsTo s (p + 1) = if byt s p = 10 then lnsTo s p ++ [(lst s p, p + 1)] else lnsTo s p := rfl
theorem lst_le (s : ByteArray) (p : Nat) : lst s p ≤ p := by
  induction p with
  | zero => exact Nat.le_refl _
  | succ p ih => unfold lst; split <;> omega
theorem lfs_le (s : ByteArray) (p : Nat) : lfs s p ≤ p := by
  induction p with
  | zero => exact Nat.le_refl _
  | succ p ih => unfold lfs; split <;> omega
theorem lnsTo_len (s : ByteArray) (p : Nat) : (lnsTo s p).length = lfs s p := by
  induction p with
  | zero => rfl
  | succ p ih => unfold lnsTo lfs; split <;> simp [ih]
/-- a run of bytes without a line feed -/
theorem lst_run (s : ByteArray) (p k : Nat) (h : ∀ j, j < k → byt s (p + j) ≠ 10) : lst s (p + k) = lst s p := by
  induction k with
  | zero => rfl
  | succ k ih =>
    rw [← Nat.add_assoc, lst_succ, if_neg (h k (by omega))]
    exact ih (fun j hj => h j (by omega))
theorem lfs_run (s : ByteArray) (p k : Nat) (h : ∀ j, j < k → byt s (p + j) ≠ 10) : lfs s (p + k) = lfs s p := by
  induction k with
  | zero => rfl
  | succ k ih =>
    rw [← Nat.add_assoc, lfs_succ, if_neg (h k (by omega))]
    exact ih (fun j hj => h j (by omega))
theorem lnsTo_run (s : ByteArray) (p k : Nat) (h : ∀ j, j < k → byt s (p + j) ≠ 10) : lnsTo s (p + k) = lnsTo s p := by
  induction k with
  | zero => rfl
  | succ k ih =>
    rw [← Nat.add_assoc, lnsTo_succ, if_neg (h k (by omega))]
    exact ih (fun j hj => h j (by omega))
theorem rune_no_lf (s : ByteArray) (p : Nat) (h : byt s p ≠ 10) : ∀ j, j < wd s p → byt s (p + j) ≠ 10 := by
  intro j hj
  by_cases h0 : j = 0
  · subst h0; exact h
  · have := wd_cont s p j (by omega) hj
    omega
theorem rune_one (s : ByteArray) (p : Nat) (h : byt s p = 10) : wd s p = 1 := wd_low s p (by omega)
theorem lnsTo_rune (s : ByteArray) (p : Nat) : lnsTo s (p + wd s p) = if byt s p = 10 then lnsTo s p ++ [(lst s p, p + 1)] else lnsTo s p := by
  split
  · rename_i h; rw [rune_one s p h]; conv => lhs; unfold lnsTo
    rw [if_pos h]
  · rename_i h; exact lnsTo_run s p _ (rune_no_lf s p h)
theorem lst_rune (s : ByteArray) (p : Nat) : lst s (p + wd s p) = if byt s p = 10 then p + 1 else lst s p := by
  split
  · rename_i h; rw [rune_one s p h]; conv => lhs; unfold lst
    rw [if_pos h]
  · rename_i h; exact lst_run s p _ (rune_no_lf s p h)
theorem lfs_rune (s : ByteArray) (p : Nat) : lfs s (p + wd s p) = if byt s p = 10 then lfs s p + 1 else lfs s p := by
  split
  · rename_i h; rw [rune_one s p h]; conv => lhs; unfold lfs
    rw [if_pos h]
  · rename_i h; exact lfs_run s p _ (rune_no_lf s p h)

/-- between a line's beginning and p no line feed stands -/
theorem lst_clean (s : ByteArray) (p q : Nat) (h1 : lst s p ≤ q) (h2 : q ≤ p) : lst s q = lst s p ∧ lfs s q = lfs s p := by
  induction p with
  | zero => obtain rfl : q = 0 := by omega
            exact ⟨rfl, rfl⟩
  | succ p ih =>
    by_cases hq : q = p + 1
    · subst hq; exact ⟨rfl, rfl⟩
    · rw [lst_succ] at h1 ⊢
      rw [lfs_succ]
      split at h1
      · omega
      · rename_i hb
        rw [if_neg hb, if_neg hb]
        exact ih h1 (by omega)
theorem lst_clean_byte (s : ByteArray) (p q : Nat) (h1 : lst s p ≤ q) (h2 : q < p) : byt s q ≠ 10 := by
  have a := (lst_clean s p (q + 1) (by omega) (by omega)).1
  have b := (lst_clean s p q h1 (by omega)).1
  intro h
  rw [lst_succ, if_pos h] at a
  have := lst_le s p
  omega

/-- what each line that ends with a line feed is -/
theorem lnsTo_entry (s : ByteArray) (k i : Nat) (f t : Nat) (h : (lnsTo s k)[i]? = some (f, t)) :
    f < t ∧ t ≤ k ∧ byt s (t - 1) = 10 ∧ lfs s t = i + 1 ∧ lst s t = t ∧ (∀ p, f ≤ p → p < t → lfs s p = i ∧ lst s p = f) := by
  induction k with
  | zero => simp [lnsTo] at h
  | succ k ih =>
    unfold lnsTo at h
    split at h
    · rename_i hb
      by_cases hi : i < (lnsTo s k).length
      · rw [List.getElem?_append_left hi] at h
        obtain ⟨a, b, c⟩ := ih h
        exact ⟨a, by omega, c⟩
      · rw [List.getElem?_append_right (by omega)] at h
        have hi0 : i = (lnsTo s k).length := by
          by_cases hz : i - (lnsTo s k).length = 0
          · omega
          · rw [List.getElem?_eq_none (by simp; omega)] at h; cases h
        subst hi0
        simp only [Nat.sub_self, List.getElem?_cons_zero, Option.some.injEq, Prod.mk.injEq] at h
        obtain ⟨rfl, rfl⟩ := h
        have := lst_le s k
        refine ⟨by omega, by omega, by simpa using hb, ?_, ?_, ?_⟩
        · unfold lfs; rw [if_pos hb, lnsTo_len]
        · unfold lst; rw [if_pos hb]
        · intro p h1 h2
          have := lst_clean s k p h1 (by omega)
          rw [lnsTo_len]
          exact ⟨this.2, this.1⟩
    · obtain ⟨a, b, c⟩ := ih h
      exact ⟨a, by omega, c⟩

/-- what each line is -/
theorem lns_entry (s : ByteArray) (i : Nat) (f t : Nat) (h : (lns s)[i]? = some (f, t)) :
    f ≤ t ∧ t ≤ s.size ∧ (∀ p, f ≤ p → p < t → lfs s p = i ∧ lst s p = f) ∧
      ((i + 1 < (lns s).length ∧ f < t ∧ byt s (t - 1) = 10 ∧ lfs s t = i + 1 ∧ lst s t = t) ∨ (i + 1 = (lns s).length ∧ t = s.size ∧ lfs s t = i ∧ lst s t = f)) := by
  unfold lns at h
  by_cases hi : i < (lnsTo s s.size).length
  · rw [List.getElem?_append_left hi] at h
    obtain ⟨a, b, c, d, e, g⟩ := lnsTo_entry s _ i f t h
    refine ⟨by omega, b, g, .inl ⟨?_, a, c, d, e⟩⟩
    unfold lns; simp; omega
  · rw [List.getElem?_append_right (by omega)] at h
    have hi0 : i = (lnsTo s s.size).length := by
      by_cases hz : i - (lnsTo s s.size).length = 0
      · omega
      · rw [List.getElem?_eq_none (by simp; omega)] at h; cases h
    subst hi0
    simp only [Nat.sub_self, List.getElem?_cons_zero, Option.some.injEq, Prod.mk.injEq] at h
    obtain ⟨rfl, rfl⟩ := h
    have := lst_le s s.size
    refine ⟨by omega, by omega, ?_, .inr ⟨by unfold lns; simp, rfl, (lnsTo_len s s.size).symm, rfl⟩⟩
    intro p h1 h2
    have := lst_clean s s.size p h1 (by omega)
    rw [lnsTo_len]
    exact ⟨this.2, this.1⟩
theorem lns_len (s : ByteArray) : (lns s).length = lfs s s.size + 1 := by unfold lns; simp [lnsTo_len]
/-- the line of a byte -/
theorem lns_at (s : ByteArray) (p : Nat) (h : p ≤ s.size) : ∃ t, (lns s)[lfs s p]? = some (lst s p, t) ∧ p ≤ t := by
  suffices H : ∀ d, ∃ t, (lnsTo s (p + d) ++ [(lst s (p + d), p + d)])[lfs s p]? = some (lst s p, t) ∧ p ≤ t ∧ lfs s p ≤ lfs s (p + d) by
    obtain ⟨t, a, b, _⟩ := H (s.size - p)
    rw [show p + (s.size - p) = s.size by omega] at a
    exact ⟨t, a, b⟩
  intro d
  induction d with
  | zero =>
    refine ⟨p, ?_, Nat.le_refl _, Nat.le_refl _⟩
    rw [Nat.add_zero, List.getElem?_append_right (by rw [lnsTo_len]; omega), lnsTo_len]
    simp
  | succ d ih =>
    obtain ⟨t, a, b, c⟩ := ih
    rw [← Nat.add_assoc]
    by_cases hb : byt s (p + d) = 10
    · have e1 : lnsTo s (p + d + 1) = lnsTo s (p + d) ++ [(lst s (p + d), p + d + 1)] := by rw [lnsTo, if_pos hb]
      have e2 : lst s (p + d + 1) = p + d + 1 := by rw [lst, if_pos hb]
      have e3 : lfs s (p + d + 1) = lfs s (p + d) + 1 := by rw [lfs, if_pos hb]
      rw [e1, e2, e3]
      by_cases hl : lfs s p = lfs s (p + d)
      · refine ⟨p + d + 1, ?_, by omega, by omega⟩
        rw [List.append_assoc, List.getElem?_append_right (by rw [lnsTo_len]; omega), lnsTo_len, hl, Nat.sub_self]
        rw [List.getElem?_append_right (by rw [lnsTo_len]; omega), lnsTo_len, hl, Nat.sub_self] at a
        simp only [List.getElem?_cons_zero, Option.some.injEq, Prod.mk.injEq] at a
        simp [a.1]
      · refine ⟨t, ?_, b, by omega⟩
        rw [List.append_assoc, List.getElem?_append_left (by rw [lnsTo_len]; omega)]
        rw [List.getElem?_append_left (by rw [lnsTo_len]; omega)] at a
        exact a
    · have e1 : lnsTo s (p + d + 1) = lnsTo s (p + d) := by rw [lnsTo, if_neg hb]
      have e2 : lst s (p + d + 1) = lst s (p + d) := by rw [lst, if_neg hb]
      have e3 : lfs s (p + d + 1) = lfs s (p + d) := by rw [lfs, if_neg hb]
      rw [e1, e2, e3]
      by_cases hl : lfs s p = lfs s (p + d)
      · refine ⟨p + d + 1, ?_, by omega, by omega⟩
        rw [List.getElem?_append_right (by rw [lnsTo_len]; omega), lnsTo_len, hl, Nat.sub_self] at a ⊢
        simp only [List.getElem?_cons_zero, Option.some.injEq, Prod.mk.injEq] at a
        simp [a.1]
      · refine ⟨t, ?_, b, by omega⟩
        rw [List.getElem?_append_left (by rw [lnsTo_len]; omega)] at a ⊢
        exact a

/-! ### columns -/

/-- how many runes from p on end at q or ahead of it -/
def cols (s : ByteArray) (q : Nat) : Nat → Nat → Nat
  | 0, _ => 0
  | fuel + 1, p => if p < s.size ∧ p + wd s p ≤ q then 1 + cols s q fuel (p + wd s p) else 0
theorem cols_succ (s : ByteArray) (q f p : Nat) : cols s q (f + 1) p = if p < s.size ∧ p + wd s p ≤ q then 1 + cols s q f (p + wd s p) else 0 := rfl
/-- the byte behind c runes from p on, none of which begins at t or behind it -/
def walkTo (s : ByteArray) (t : Nat) : Nat → Nat → Option Nat
  | 0, p => some p
  | c + 1, p => if p < t then walkTo s t c (p + wd s p) else none
theorem cols_walk (s : ByteArray) (t q : Nat) : ∀ (c p fuel : Nat), walkTo s t c p = some q → t ≤ s.size → q ≤ t → s.size ≤ p + fuel → cols s q fuel p = c
  | 0, p, fuel, h, ht, hq, hf => by
    simp only [walkTo, Option.some.injEq] at h
    subst h
    have := wd_pos s p
    cases fuel with
    | zero => rfl
    | succ f => unfold cols; rw [if_neg (by omega)]
  | c + 1, p, fuel, h, ht, hq, hf => by
    unfold walkTo at h
    split at h
    · rename_i hp
      have hw := wd_pos s p
      have hge : p + wd s p ≤ q := by
        clear hq ht hf
        revert h
        generalize p + wd s p = r
        intro h
        induction c generalizing r with
        | zero => simp only [walkTo, Option.some.injEq] at h; omega
        | succ c ih =>
          unfold walkTo at h
          split at h
          · have := ih _ h; omega
          · cases h
      cases fuel with
      | zero => omega
      | succ f =>
        unfold cols
        rw [if_pos ⟨by omega, hge⟩, cols_walk s t q c _ f h ht hq (by omega)]
        omega
    · cases h
/-- p's line's beginning, and p, as far as runes go: 'p is c runes behind its line's beginning' -/
theorem walk_step (s : ByteArray) (t q : Nat) : ∀ (c p : Nat), walkTo s t c p = some q → q < t → walkTo s t (c + 1) p = some (q + wd s q)
  | 0, p, h, hq => by
    simp only [walkTo, Option.some.injEq] at h
    subst h
    simp [walkTo, hq]
  | c + 1, p, h, hq => by
    unfold walkTo at h
    split at h
    · rename_i hp
      rw [walkTo, if_pos hp]
      exact walk_step s t q c _ h hq
    · cases h
theorem walk_more (s : ByteArray) (t t' q : Nat) (ht : t ≤ t') : ∀ (c p : Nat), walkTo s t c p = some q → walkTo s t' c p = some q
  | 0, p, h => h
  | c + 1, p, h => by
    unfold walkTo at h ⊢
    split at h
    · rw [if_pos (by omega)]
      exact walk_more s t t' q ht c _ h
    · cases h
/-- a byte at which a rune begins -/
inductive Begins (s : ByteArray) : Nat → Prop
  | zero : Begins s 0
  | step {p : Nat} (h : Begins s p) (hp : p < s.size) : Begins s (p + wd s p)
theorem begins_walk (s : ByteArray) {p : Nat} (h : Begins s p) : ∃ c, walkTo s p c (lst s p) = some p := by
  induction h with
  | zero => exact ⟨0, rfl⟩
  | step h hp ih =>
    rename_i p
    obtain ⟨c, hc⟩ := ih
    rw [lst_rune]
    split
    · rename_i hb
      rw [rune_one s p hb]
      exact ⟨0, rfl⟩
    · have := wd_pos s p
      refine ⟨c + 1, walk_step s _ p c _ ?_ (by omega)⟩
      exact walk_more s _ _ p (by omega) c _ hc
theorem begins_le (s : ByteArray) {p : Nat} (h : Begins s p) : p ≤ s.size := by
  induction h with
  | zero => omega
  | step h hp ih => exact wd_le s _ hp
theorem walk_le (s : ByteArray) (t q : Nat) (ht : t = s.size ∨ byt s (t - 1) < 128) (hz : t ≤ s.size) : ∀ (c p : Nat), walkTo s t c p = some q → p ≤ t → q ≤ t
  | 0, p, h, hp => by simp only [walkTo, Option.some.injEq] at h; omega
  | c + 1, p, h, hp => by
    unfold walkTo at h
    split at h
    · rename_i hp'
      refine walk_le s t q ht hz c _ h ?_
      by_cases hn : p + wd s p ≤ t
      · exact hn
      · exfalso
        have hs := wd_le s p (by omega)
        have hb : byt s (t - 1) < 128 := ht.resolve_left (by omega)
        have hc := wd_cont s p (t - 1 - p) (by
          by_cases h0 : t - 1 - p = 0
          · exfalso
            rw [show t - 1 = p by omega] at hb
            rw [wd_low s p hb] at hn
            omega
          · omega) (by omega)
        rw [show p + (t - 1 - p) = t - 1 by omega] at hc
        omega
    · cases h
theorem walk_ge (s : ByteArray) (t q : Nat) : ∀ (c p : Nat), walkTo s t c p = some q → p + c ≤ q
  | 0, p, h => by simp only [walkTo, Option.some.injEq] at h; omega
  | c + 1, p, h => by
    unfold walkTo at h
    split at h
    · have := walk_ge s t q c _ h
      have := wd_pos s p
      omega
    · cases h

end Go.Proofs.YtfibmmmbpfnccaaGreatDoor
