/-
  PLAIN MATHEMATICS: a rune's bytes, encoded again; Valid's steps.
-/
import Derived.Test.YtmomildkopainaaDoorVldM
namespace Go.Proofs.YtmomildkopainaaDoor
open Go.RowKit

theorem ba_ext {a b : ByteArray} (h : a.data = b.data) : a = b := by
  cases a; cases b; simp_all
theorem byt_of (s : ByteArray) (p : Nat) (h : p < s.size) : s[p] = UInt8.ofNat (byt s p) := by
  rw [byt_eq s p h]; simp
theorem ext_one (s : ByteArray) (p : Nat) (h : p + 1 ≤ s.size) : s.extract p (p + 1) = ⟨#[UInt8.ofNat (byt s p)]⟩ := by
  refine ByteArray.ext_getElem (by rw [ByteArray.size_extract]; show _ = 1; omega) fun i h1 h2 => ?_
  have hi : i < 1 := h2
  obtain rfl : i = 0 := by omega
  rw [ByteArray.getElem_extract, ← byt_of s p (by omega)]
  simp; rfl
theorem ext_two (s : ByteArray) (p : Nat) (h : p + 2 ≤ s.size) : s.extract p (p + 2) = ⟨#[UInt8.ofNat (byt s p), UInt8.ofNat (byt s (p + 1))]⟩ := by
  refine ByteArray.ext_getElem (by rw [ByteArray.size_extract]; show _ = 2; omega) fun i h1 h2 => ?_
  have hi : i < 2 := h2
  rw [ByteArray.getElem_extract, ← byt_of s p (by omega), ← byt_of s (p + 1) (by omega)]
  match i, hi with
  | 0, _ => rfl
  | 1, _ => rfl
theorem ext_three (s : ByteArray) (p : Nat) (h : p + 3 ≤ s.size) : s.extract p (p + 3) = ⟨#[UInt8.ofNat (byt s p), UInt8.ofNat (byt s (p + 1)), UInt8.ofNat (byt s (p + 2))]⟩ := by
  refine ByteArray.ext_getElem (by rw [ByteArray.size_extract]; show _ = 3; omega) fun i h1 h2 => ?_
  have hi : i < 3 := h2
  rw [ByteArray.getElem_extract, ← byt_of s p (by omega), ← byt_of s (p + 1) (by omega), ← byt_of s (p + 2) (by omega)]
  match i, hi with
  | 0, _ => rfl
  | 1, _ => rfl
  | 2, _ => rfl
theorem ext_four (s : ByteArray) (p : Nat) (h : p + 4 ≤ s.size) : s.extract p (p + 4) = ⟨#[UInt8.ofNat (byt s p), UInt8.ofNat (byt s (p + 1)), UInt8.ofNat (byt s (p + 2)), UInt8.ofNat (byt s (p + 3))]⟩ := by
  refine ByteArray.ext_getElem (by rw [ByteArray.size_extract]; show _ = 4; omega) fun i h1 h2 => ?_
  have hi : i < 4 := h2
  rw [ByteArray.getElem_extract, ← byt_of s p (by omega), ← byt_of s (p + 1) (by omega), ← byt_of s (p + 2) (by omega), ← byt_of s (p + 3) (by omega)]
  match i, hi with
  | 0, _ => rfl
  | 1, _ => rfl
  | 2, _ => rfl
  | 3, _ => rfl

theorem mk1 {a a' : Nat} (h : a = a') : (⟨#[UInt8.ofNat a]⟩ : ByteArray) = ⟨#[UInt8.ofNat a']⟩ := by rw [h]
theorem mk2 {a a' b b' : Nat} (h : a = a') (i : b = b') : (⟨#[UInt8.ofNat a, UInt8.ofNat b]⟩ : ByteArray) = ⟨#[UInt8.ofNat a', UInt8.ofNat b']⟩ := by rw [h, i]
theorem mk3 {a a' b b' c c' : Nat} (h : a = a') (i : b = b') (j : c = c') : (⟨#[UInt8.ofNat a, UInt8.ofNat b, UInt8.ofNat c]⟩ : ByteArray) = ⟨#[UInt8.ofNat a', UInt8.ofNat b', UInt8.ofNat c']⟩ := by rw [h, i, j]
theorem mk4 {a a' b b' c c' d d' : Nat} (h : a = a') (i : b = b') (j : c = c') (k : d = d') : (⟨#[UInt8.ofNat a, UInt8.ofNat b, UInt8.ofNat c, UInt8.ofNat d]⟩ : ByteArray) = ⟨#[UInt8.ofNat a', UInt8.ofNat b', UInt8.ofNat c', UInt8.ofNat d']⟩ := by rw [h, i, j, k]
theorem enc_valid (c : Nat) (h : c < 55296 ∨ 57344 ≤ c ∧ c ≤ 1114111) : Utf8.encode (c : Int) =
    if c < 0x80 then ⟨#[UInt8.ofNat c]⟩
    else if c < 0x800 then ⟨#[UInt8.ofNat (0xC0 + c / 64), UInt8.ofNat (0x80 + c % 64)]⟩
    else if c < 0x10000 then ⟨#[UInt8.ofNat (0xE0 + c / 4096), UInt8.ofNat (0x80 + c / 64 % 64), UInt8.ofNat (0x80 + c % 64)]⟩
    else ⟨#[UInt8.ofNat (0xF0 + c / 262144), UInt8.ofNat (0x80 + c / 4096 % 64), UInt8.ofNat (0x80 + c / 64 % 64), UInt8.ofNat (0x80 + c % 64)]⟩ := by
  have hv : Utf8.valid (c : Int) = true := by
    simp only [Utf8.valid, Bool.and_eq_true, Bool.or_eq_true, decide_eq_true_eq]; omega
  unfold Utf8.encode
  simp only [hv, if_true, Int.toNat_natCast]
/-- a rune's bytes, encoded again -/
theorem enc_dec (s : ByteArray) (p : Nat) (h : p < s.size) (hb : ¬ bad s p) : Utf8.encode (Utf8.decode s p).1 = s.extract p (p + (Utf8.decode s p).2) := by
  have hle := wd_le s p h
  have h0 := byt_lt s p
  have h1 := byt_lt s (p + 1)
  have h2 := byt_lt s (p + 2)
  have h3 := byt_lt s (p + 3)
  unfold bad at hb
  unfold wd at hle
  have x1 := ext_one s p
  have x2 := ext_two s p
  have x3 := ext_three s p
  have x4 := ext_four s p
  rw [dec_eq] at *
  generalize s.size - p = n at *
  generalize byt s (p + 1) = b1 at *
  generalize byt s (p + 2) = b2 at *
  generalize byt s (p + 3) = b3 at *
  generalize byt s p = b0 at *
  revert hb hle
  unfold Lib.decodeN
  split
  · intro hb hle
    rw [x1 hle, enc_valid _ (by simp only; omega), if_pos (by simp only; omega)]
  · split
    · split
      · intro hb hle
        rw [x2 hle, enc_valid _ (by simp only; omega), if_neg (by simp only; omega), if_pos (by simp only; omega)]
        refine mk2 ?_ ?_ <;> simp only <;> omega
      · intro hb hle; simp at hb
    · split
      · split
        · intro hb hle
          rw [x3 hle, enc_valid _ (by simp only; omega), if_neg (by simp only; omega), if_neg (by simp only; omega), if_pos (by simp only; omega)]
          refine mk3 ?_ ?_ ?_ <;> simp only <;> omega
        · intro hb hle; simp at hb
      · split
        · split
          · intro hb hle
            rw [x4 hle, enc_valid _ (by simp only; omega), if_neg (by simp only; omega), if_neg (by simp only; omega), if_neg (by simp only; omega)]
            refine mk4 ?_ ?_ ?_ ?_ <;> simp only <;> omega
          · intro hb hle; simp at hb
        · intro hb hle; simp at hb

theorem vld_step (s : ByteArray) (f p : Nat) (h : p < s.size) (hb : ¬ bad s p) : vld s (f + 1) p = vld s f (p + wd s p) := by
  rw [vld, if_pos h, if_neg hb]
theorem vld_bad (s : ByteArray) (f p : Nat) (h : p < s.size) (hb : bad s p) : vld s (f + 1) p = (p, false) := by
  rw [vld, if_pos h, if_pos hb]
end Go.Proofs.YtmomildkopainaaDoor
