/-
  PLAIN MATHEMATICS: a text in quotes, as bytes.
-/
import Derived.Test.YtmomildkopainaaDoorUtfEnc
import Derived.Test.YtmomildkopainaaDoorNumMath
import Derived.Lib.UnsafeStr
import Derived.Lib.RuneBytes
namespace Go.Proofs.YtmomildkopainaaDoor
open Go.RowKit

def hexd (k : Nat) : UInt8 := if k < 10 then UInt8.ofNat (48 + k) else UInt8.ofNat (87 + k)
/-- a byte of a text, in quotes -/
def qb (c : UInt8) : Bs :=
  if c = 34 ∨ c = 92 then [92, c] else if c = 8 then [92, 98] else if c = 12 then [92, 102] else if c = 10 then [92, 110] else if c = 13 then [92, 114] else if c = 9 then [92, 116]
  else if c < 32 then [92, 117, 48, 48, hexd (c.toNat / 16), hexd (c.toNat % 16)] else [c]
def quoteB (l : Bs) : Bs := l.flatMap qb
def quoteM (s : ByteArray) : Bs × Int := if (valid s).2 = true then (34 :: quoteB s.data.toList ++ [34], 0) else ([], 2)

theorem qb_high {c : UInt8} (h : 128 ≤ c.toNat) : qb c = [c] := by
  unfold qb
  have e : ∀ d : UInt8, d.toNat < 128 → c ≠ d := fun d hd hc => by
    rw [hc] at h
    omega
  rw [if_neg (fun h => h.elim (e 34 (by decide)) (e 92 (by decide))), if_neg (e 8 (by decide)), if_neg (e 12 (by decide)), if_neg (e 10 (by decide)), if_neg (e 13 (by decide)), if_neg (e 9 (by decide)), if_neg]
  intro h2
  have : c.toNat < 32 := h2
  omega
theorem quoteB_high : ∀ l : Bs, (∀ c ∈ l, 128 ≤ c.toNat) → quoteB l = l
  | [], _ => rfl
  | c :: l, h => by
    show qb c ++ quoteB l = c :: l
    rw [qb_high (h c (by simp)), quoteB_high l (fun x hx => h x (by simp [hx]))]
    rfl
theorem quoteB_app (a b : Bs) : quoteB (a ++ b) = quoteB a ++ quoteB b := List.flatMap_append
theorem qb_len (c : UInt8) : (qb c).length ≤ 6 := by
  unfold qb
  repeat' split
  all_goals simp
theorem quoteB_len : ∀ l : Bs, (quoteB l).length ≤ 6 * l.length
  | [] => by simp [quoteB]
  | c :: l => by
    have h1 := qb_len c
    have h2 := quoteB_len l
    have e : quoteB (c :: l) = qb c ++ quoteB l := rfl
    rw [e, List.length_append, List.length_cons]
    omega
/-- the bytes of the rune at p -/
def runeAt (s : ByteArray) (p : Nat) : Bs := (s.data.toList.drop p).take (wd s p)
theorem runeAt_len (s : ByteArray) (p : Nat) (h : p < s.size) : (runeAt s p).length = wd s p := by
  have := wd_le s p h
  unfold runeAt
  rw [List.length_take, List.length_drop, Array.length_toList]
  show min (wd s p) (s.size - p) = _
  omega
theorem runeAt_take (s : ByteArray) (p : Nat) : s.data.toList.take (p + wd s p) = s.data.toList.take p ++ runeAt s p := by
  unfold runeAt
  rw [List.take_add]
theorem runeAt_low (s : ByteArray) (p : Nat) (h : p < s.size) (hb : byt s p < 128) : runeAt s p = [UInt8.ofNat (byt s p)] := by
  unfold runeAt
  rw [wd_low s p hb]
  have hl : p < s.data.toList.length := by rw [Array.length_toList]; exact h
  rw [List.drop_eq_getElem_cons hl, List.take_succ_cons, List.take_zero]
  congr 1
  apply UInt8.toNat_inj.1
  rw [UInt8.toNat_ofNat_of_lt' (show byt s p < 256 from byt_lt s p), byt_eq s p h]
  rfl
theorem runeAt_high (s : ByteArray) (p : Nat) (h : p < s.size) (hb : 128 ≤ byt s p) : ∀ c ∈ runeAt s p, 128 ≤ c.toNat := by
  intro c hc
  have hle := wd_le s p h
  obtain ⟨j, hj, rfl⟩ := List.mem_iff_getElem.1 hc
  have hj2 : j < wd s p := by rw [runeAt_len s p h] at hj; exact hj
  have e : (runeAt s p)[j].toNat = byt s (p + j) := by
    rw [byt_eq s (p + j) (by omega)]
    simp only [runeAt, List.getElem_take, List.getElem_drop]
    rfl
  rw [e]
  cases j with
  | zero => exact hb
  | succ j => exact wd_cont s p (j + 1) (by omega) hj2
theorem quoteB_rune (s : ByteArray) (p : Nat) (h : p < s.size) : quoteB (s.data.toList.take (p + wd s p)) = quoteB (s.data.toList.take p) ++ (if byt s p < 128 then qb (UInt8.ofNat (byt s p)) else runeAt s p) := by
  rw [runeAt_take, quoteB_app]
  congr 1
  by_cases hb : byt s p < 128
  · rw [if_pos hb, runeAt_low s p h hb]
    show qb _ ++ [] = _
    rw [List.append_nil]
  · rw [if_neg hb]
    exact quoteB_high _ (runeAt_high s p h (by omega))
theorem dec_fine (s : ByteArray) (p : Nat) (hb : ¬ bad s p) : (Utf8.decode s p).1 < 55296 ∨ 57344 ≤ (Utf8.decode s p).1 ∧ (Utf8.decode s p).1 ≤ 1114111 := by
  unfold bad at hb
  rw [dec_eq] at hb ⊢
  have h0 := byt_lt s p
  have h1 := byt_lt s (p + 1)
  have h2 := byt_lt s (p + 2)
  have h3 := byt_lt s (p + 3)
  generalize s.size - p = n at *
  generalize byt s (p + 1) = b1 at *
  generalize byt s (p + 2) = b2 at *
  generalize byt s (p + 3) = b3 at *
  generalize byt s p = b0 at *
  revert hb
  unfold Lib.decodeN
  split
  · intro hb; simp only; omega
  · split
    · split
      · intro hb; simp only; omega
      · intro hb; simp at hb
    · split
      · split
        · intro hb; simp only; omega
        · intro hb; simp at hb
      · split
        · split
          · intro hb; simp only; omega
          · intro hb; simp at hb
        · intro hb; simp at hb
/-- what WriteRune writes of a rune that stands in a text -/
theorem runeCells_at (s : ByteArray) (p : Nat) (h : p < s.size) (hb : ¬ bad s p) : Lib.runeCells (Utf8.decode s p).1 = Lib.byteCells (runeAt s p) := by
  have he := enc_dec s p h hb
  have hr : runeAt s p = (Utf8.encode (Utf8.decode s p).1).data.toList := by
    rw [he, extract_st, st_list]
    have e : p + (Utf8.decode s p).2 - p = wd s p := by unfold wd; omega
    rw [e]
    rfl
  rw [hr]
  have hc := dec_fine s p hb
  generalize (Utf8.decode s p).1 = C at *
  rw [enc_valid C hc]
  unfold Lib.runeCells Lib.byteCells
  have w : ∀ n : Nat, n < 256 → ((UInt8.ofNat n).toNat : Int) = n := fun n hn => by rw [UInt8.toNat_ofNat_of_lt' (by simpa using hn)]
  by_cases h1 : C < 128
  · rw [if_pos h1, Lib.encodeRuneZ_one (by omega) (by omega)]
    simp only [List.map_cons, List.map_nil]
    rw [w _ (by omega)]
  · rw [if_neg h1]
    by_cases h2 : C < 2048
    · rw [if_pos h2, Lib.encodeRuneZ_two (by omega) (by omega)]
      simp only [List.map_cons, List.map_nil]
      rw [w _ (by omega), w _ (by omega)]
      congr 2 <;> omega
    · rw [if_neg h2]
      by_cases h3 : C < 65536
      · rw [if_pos h3, Lib.encodeRuneZ_three (by omega)]
        simp only [List.map_cons, List.map_nil]
        rw [w _ (by omega), w _ (by omega), w _ (by omega)]
        simp only [List.cons.injEq, Value.int.injEq, true_and, and_true]
        omega
      · rw [if_neg h3, Lib.encodeRuneZ_four (by omega) (by omega)]
        simp only [List.map_cons, List.map_nil]
        rw [w _ (by omega), w _ (by omega), w _ (by omega), w _ (by omega)]
        simp only [List.cons.injEq, Value.int.injEq, true_and, and_true]
        omega
end Go.Proofs.YtmomildkopainaaDoor
