/-
  PLAIN MATHEMATICS: blanks ahead of a line; the parts of a line.
-/
import Derived.Test.YtekihjffefokjaaDoorYlH
import Derived.Test.YtekihjffefokjaaDoorYlL
namespace Go.Proofs.YtekihjffefokjaaDoor
open Go.RowKit

theorem restM_parts (s : ByteArray) (q : Nat) (hq' : q ≤ s.size) : q ≤ (restM s q).1.1 ∧ (restM s q).1.1 ≤ (restM s q).1.2 ∧ (restM s q).1.2 ≤ s.size ∧ (∀ i, q ≤ i → i < (restM s q).1.1 → byt s i = 32) ∧
    (∀ c, (restM s q).2 = some c → (restM s q).1.2 ≤ c ∧ c < s.size ∧ byt s c = 35 ∧ ∀ i, (restM s q).1.2 ≤ i → i < c → byt s i = 32) ∧
    ((restM s q).2 = none → ∀ i, (restM s q).1.2 ≤ i → i < s.size → byt s i = 32) ∧
    ((restM s q).1.1 < (restM s q).1.2 → byt s (restM s q).1.1 ≠ 32 ∧ byt s ((restM s q).1.2 - 1) ≠ 32) := by
  have hb1 := blk_ge s q
  have hb2 := blk_le s q hq'
  have hl := look_bd s (blk s q) hb2
  have hc1 := cmtTo_ge s _ hl.2
  have hc2 := cmtTo_le s _ hl.2
  have hc3 := cmtTo_is s _ hl.2
  unfold restM
  simp only
  obtain ⟨t1, t2, t3, t4⟩ := trm_bd s (blk s q) (cmtTo s (look s (blk s q))) (by omega)
  refine ⟨hb1, t1, by omega, fun i h1 h2 => blk_in s q i h1 h2, ?_, ?_, fun h => ⟨blk_out s q hq' (by omega), t4 h⟩⟩
  · intro c hc
    by_cases h1 : cmtTo s (look s (blk s q)) < s.size
    · rw [if_pos h1] at hc
      obtain rfl := Option.some.inj hc
      have h35 := hc3 h1
      unfold cmt at h35
      simp only [Bool.and_eq_true, beq_iff_eq] at h35
      exact ⟨t2, h1, h35.1.2, t3⟩
    · rw [if_neg h1] at hc; cases hc
  · intro hc i h1 h2
    by_cases h3 : cmtTo s (look s (blk s q)) < s.size
    · rw [if_pos h3] at hc; cases hc
    · exact t3 i h1 (by omega)

/-- where what stands in a line begins, behind the line's signs -/
def bodyAt (p : Nat) (kd : Nat) (ko : Option Nat) : Nat := match ko with | some e => e + 1 | none => if kd = 3 then p + 1 else p
structure LineOk (s : ByteArray) (p : Nat) (kd : Nat) (ko : Option Nat) (r0 r1 : Nat) (no : Option Nat) : Prop where
  kl : 1 ≤ kd
  ku : kd ≤ 5
  key : ∀ e, ko = some e → kd = 4 ∧ p < e ∧ e < s.size ∧ byt s e = 58
  nokey : ko = none → kd ≠ 4
  item : kd = 3 → p < s.size ∧ byt s p = 45
  lo : bodyAt p kd ko ≤ r0
  mid : r0 ≤ r1
  hi : r1 ≤ s.size
  lead : ∀ i, bodyAt p kd ko ≤ i → i < r0 → byt s i = 32
  note : ∀ c, no = some c → r1 ≤ c ∧ c < s.size ∧ byt s c = 35 ∧ ∀ i, r1 ≤ i → i < c → byt s i = 32
  nonote : no = none → ∀ i, r1 ≤ i → i < s.size → byt s i = 32
  ends : r0 < r1 → byt s r0 ≠ 32 ∧ byt s (r1 - 1) ≠ 32
theorem sgn_is {s : ByteArray} {p c : Nat} (h : sgn s p c = true) : p < s.size ∧ byt s p = c := by
  unfold sgn at h
  simp only [Bool.and_eq_true, decide_eq_true_eq, beq_iff_eq] at h
  exact h.1
theorem lineD_ok (s : ByteArray) (p : Nat) (hp : p ≤ s.size) (d : Nat × Option Nat × (Nat × Nat) × Option Nat) (h : lineD s p = some d) : LineOk s p d.1 d.2.1 d.2.2.1.1 d.2.2.1.2 d.2.2.2 := by
  have nk : ∀ kd e, (none : Option Nat) = some e → kd = 4 ∧ p < e ∧ e < s.size ∧ byt s e = 58 := fun _ _ h => absurd h (by simp)
  have plain : ∀ (kd : Nat) (i r : Nat), kd ≠ 3 → bodyAt p kd none ≤ i → i < p → byt s i = 32 := fun kd i _ hk k1 k2 => by
    unfold bodyAt at k1
    simp only [if_neg hk] at k1
    omega
  have bp : ∀ kd, kd ≠ 3 → bodyAt p kd none = p := fun kd hk => by unfold bodyAt; simp only [if_neg hk]
  unfold lineD at h
  by_cases h1 : p = s.size
  · rw [if_pos h1] at h
    obtain rfl := Option.some.inj h
    refine ⟨Nat.le_refl 1, (by omega : 1 ≤ 5), nk 1, fun _ => (by omega : (1 : Nat) ≠ 4), fun h => ?_, ?_, Nat.le_refl p, hp, fun i k1 k2 => plain 1 i p (by omega) k1 k2, fun c h => absurd h (by simp), fun _ i k1 k2 => ?_, fun h => ?_⟩
    · exact absurd h (by simp)
    · exact Nat.le_of_eq (bp 1 (by omega))
    · have k1' : p ≤ i := k1
      omega
    · exact absurd h (Nat.lt_irrefl p)
  · rw [if_neg h1] at h
    by_cases h2 : byt s p = 35
    · rw [if_pos h2] at h
      obtain rfl := Option.some.inj h
      refine ⟨(by omega : 1 ≤ 2), (by omega : 2 ≤ 5), nk 2, fun _ => (by omega : (2 : Nat) ≠ 4), fun h => ?_, ?_, Nat.le_refl p, hp, fun i k1 k2 => plain 2 i p (by omega) k1 k2, fun c h => ?_, fun h => absurd h (by simp), fun h => ?_⟩
      · exact absurd h (by simp)
      · exact Nat.le_of_eq (bp 2 (by omega))
      · obtain rfl := Option.some.inj h
        refine ⟨Nat.le_refl p, by omega, h2, fun i k1 k2 => ?_⟩
        have k1' : p ≤ i := k1
        omega
      · exact absurd h (Nat.lt_irrefl p)
    · rw [if_neg h2] at h
      by_cases h3 : sgn s p 45 = true
      · rw [if_pos h3] at h
        obtain rfl := Option.some.inj h
        have hs := sgn_is h3
        obtain ⟨a1, a2, a3, a4, a5, a6, a7⟩ := restM_parts s (p + 1) (by omega)
        exact ⟨(by omega : 1 ≤ 3), (by omega : 3 ≤ 5), nk 3, fun _ => (by omega : (3 : Nat) ≠ 4), fun _ => hs, a1, a2, a3, a4, a5, a6, a7⟩
      · rw [if_neg h3] at h
        by_cases h4 : (keyM s p).2 = false
        · rw [if_pos h4] at h; exact absurd h (by simp)
        · rw [if_neg h4] at h
          have hk := keyM_bd s p (by omega)
          by_cases h5 : p < (keyM s p).1
          · rw [if_pos h5] at h
            obtain rfl := Option.some.inj h
            have hs := sgn_is (hk.2.2 h5).1
            obtain ⟨a1, a2, a3, a4, a5, a6, a7⟩ := restM_parts s ((keyM s p).1 + 1) (by omega)
            refine ⟨(by omega : 1 ≤ 4), (by omega : 4 ≤ 5), fun e h => ?_, fun h => absurd h (by simp), fun h => ?_, a1, a2, a3, a4, a5, a6, a7⟩
            · obtain rfl := Option.some.inj h
              exact ⟨rfl, h5, hs.1, hs.2⟩
            · exact absurd h (by simp)
          · rw [if_neg h5] at h
            obtain rfl := Option.some.inj h
            obtain ⟨a1, a2, a3, a4, a5, a6, a7⟩ := restM_parts s p hp
            refine ⟨(by omega : 1 ≤ 5), Nat.le_refl 5, nk 5, fun _ => (by omega : (5 : Nat) ≠ 4), fun h => ?_, ?_, a2, a3, fun i k1 k2 => ?_, a5, a6, a7⟩
            · exact absurd h (by simp)
            · exact Nat.le_trans (Nat.le_of_eq (bp 5 (by omega))) a1
            · exact a4 i (by have := bp 5 (by omega); simp only at k1; omega) k2

theorem extract_all (s : ByteArray) : s.extract 0 s.size = s := by
  refine ba_ext (Array.ext' ?_)
  rw [tail_list, List.drop_zero]
/-- what Line answers of a whole text -/
theorem lineM_all (s : ByteArray) : lineM s 0 (s.size : Int) = if hasLF s = true then (lineZ, 0, 1) else if ¬ cleanM s true = s.size then (lineZ, (cleanM s true : Int), 2) else lineF 0 s.size (blk s 0) (lineD s (blk s 0)) := by
  unfold lineM
  rw [if_neg (by omega)]
  unfold lineN
  simp only [Int.toNat_natCast, Int.toNat_zero, extract_all]
  split
  · rfl
  · split
    · simp
    · rfl

def Blanks (t : ByteArray) (n : Nat) : Prop := ∀ i, i < n → byt t i = 32
theorem blk_blanks (t : ByteArray) (n : Nat) (hn : n ≤ t.size) (h : Blanks t n) : ∀ i, i ≤ n → blk t (n - i) = blk t n
  | 0, _ => rfl
  | i + 1, hi => by
    have ih := blk_blanks t n hn h i (by omega)
    rw [blk_step (by omega) (h _ (by omega)), ← ih]
    congr 1; omega
theorem clean_blanks (t : ByteArray) (n : Nat) (hn : n ≤ t.size) (h : Blanks t n) : ∀ i f, i ≤ n → clnM t true (f + i) (n - i) = clnM t true f n
  | 0, f, _ => rfl
  | i + 1, f, hi => by
    have hb := h (n - (i + 1)) (by omega)
    have ih := clean_blanks t n hn h i f (by omega)
    have hbad : badC t true (n - (i + 1)) = false := by
      unfold badC
      have : ¬ bad t (n - (i + 1)) := fun hh => by
        unfold bad at hh
        rw [dec_low t _ (by omega)] at hh
        simp only at hh
        omega
      rw [decide_eq_false this, decide_eq_false (by omega), hb]; rfl
    rw [show f + (i + 1) = (f + i) + 1 by omega, clnM_step t true (f + i) _ (by omega) hbad, wd_low t _ (by omega), ← ih]
    congr 1; omega
theorem lineM_blanks (s t : ByteArray) (n : Nat) (hs : Suf t n s) (h : Blanks t n) (hlf : hasLF t = hasLF s) :
    lineM t 0 (t.size : Int) = if hasLF s = true then (lineZ, 0, 1) else if ¬ cleanM s true = s.size then (lineZ, ((n + cleanM s true : Nat) : Int), 2) else lineF 0 t.size (n + blk s 0) ((lineD s (blk s 0)).map (upD n)) := by
  have hz := hs.size
  have hb0 := blk_le s 0 (Nat.zero_le _)
  have e1 : blk t 0 = n + blk s 0 := by
    have := blk_blanks t n hs.le h n (Nat.le_refl _)
    rw [Nat.sub_self] at this
    rw [this]
    exact hs.blk 0
  have e2 : cleanM t true = n + cleanM s true := by
    unfold cleanM
    have := clean_blanks t n hs.le h n s.size (Nat.le_refl _)
    rw [Nat.sub_self] at this
    rw [hz, Nat.add_comm n, this]
    exact hs.clnM true s.size 0
  rw [lineM_all, hlf, e1, e2, hs.lineD _ hb0]
  by_cases h1 : hasLF s = true
  · rw [if_pos h1, if_pos h1]
  · rw [if_neg h1, if_neg h1]
    by_cases h2 : cleanM s true = s.size
    · rw [if_neg (fun hh => hh (by omega)), if_neg (fun hh => hh h2)]
    · rw [if_pos (by omega), if_pos h2]
end Go.Proofs.YtekihjffefokjaaDoor
