/-
  PLAIN MATHEMATICS: what stands in quotes: the program's way.
-/
import Derived.Test.YtabfojdieegklaaGreatDoorRun
namespace Go.Proofs.YtabfojdieegklaaGreatDoor
open Go.RowKit

/-- a digit of base 16 -/
def hexv (c : Nat) : Option Nat := if 48 ≤ c ∧ c ≤ 57 then some (c - 48) else if 97 ≤ c ∧ c ≤ 102 then some (c - 87) else if 65 ≤ c ∧ c ≤ 70 then some (c - 55) else none
theorem hexv_lt {c n : Nat} (h : hexv c = some n) : n < 16 ∧ c < 128 := by
  unfold hexv at h
  split at h
  · injection h with h; omega
  · split at h
    · injection h with h; omega
    · split at h
      · injection h with h; omega
      · cases h
/-- four digits -/
def hex4 (a b c d : Nat) : Option Nat :=
  match hexv a, hexv b, hexv c, hexv d with
  | some x, some y, some z, some u => some (((x * 16 + y) * 16 + z) * 16 + u)
  | _, _, _, _ => none
/-- the escape of four digits at p -/
def uni (s : ByteArray) (p : Nat) : Option Nat :=
  if p + 6 ≤ s.size ∧ byt s p = 92 ∧ byt s (p + 1) = 117 then hex4 (byt s (p + 2)) (byt s (p + 3)) (byt s (p + 4)) (byt s (p + 5)) else none
theorem hex4_lt {a b c d n : Nat} (h : hex4 a b c d = some n) : n < 65536 := by
  unfold hex4 at h
  split at h
  · rename_i x y z u h1 h2 h3 h4
    have := hexv_lt h1; have := hexv_lt h2; have := hexv_lt h3; have := hexv_lt h4
    injection h with h
    omega
  · cases h
theorem uni_lt {s : ByteArray} {p n : Nat} (h : uni s p = some n) : n < 65536 := by
  unfold uni at h
  split at h
  · exact hex4_lt h
  · cases h
/-- the escape at p: the rune and how many bytes it has -/
def escU (s : ByteArray) (p : Nat) : Option (Nat × Nat) :=
  match uni s p with
  | none => none
  | some n =>
    if 56320 ≤ n ∧ n ≤ 57343 then none
    else if n < 55296 ∨ 57343 < n then some (n, 6)
    else match uni s (p + 6) with
      | none => none
      | some m => if m < 56320 ∨ 57343 < m then none else some (65536 + (n - 55296) * 1024 + (m - 56320), 12)
def escM (s : ByteArray) (p : Nat) : Option (Nat × Nat) :=
  if s.size < p + 2 then none
  else if byt s (p + 1) = 34 ∨ byt s (p + 1) = 92 ∨ byt s (p + 1) = 47 then some (byt s (p + 1), 2)
  else if byt s (p + 1) = 98 then some (8, 2) else if byt s (p + 1) = 102 then some (12, 2) else if byt s (p + 1) = 110 then some (10, 2)
  else if byt s (p + 1) = 114 then some (13, 2) else if byt s (p + 1) = 116 then some (9, 2) else escU s p
/-- the part at p -/
def partM (s : ByteArray) (p : Nat) : Option (Nat × Nat) :=
  if byt s p = 92 then escM s p else if byt s p < 32 then none else if bad s p then none else some (Utf8.decode s p)
theorem escU_bd {s : ByteArray} {p r n : Nat} (h : escU s p = some (r, n)) : r ≤ 1114111 ∧ (n = 6 ∧ p + 6 ≤ s.size ∨ n = 12 ∧ p + 12 ≤ s.size) ∧ (r < 55296 ∨ 57343 < r) := by
  have hsz : ∀ q m, uni s q = some m → q + 6 ≤ s.size := fun q m hm => by
    unfold uni at hm
    split at hm
    · rename_i h; exact h.1
    · cases hm
  unfold escU at h
  split at h
  · cases h
  · rename_i m hm
    have h1 := uni_lt hm
    have h2 := hsz p m hm
    split at h
    · cases h
    · split at h
      · injection h with h; injection h with h3 h4; omega
      · split at h
        · cases h
        · rename_i k hk
          have h5 := uni_lt hk
          have h6 := hsz _ k hk
          split at h
          · cases h
          · injection h with h; injection h with h3 h4; omega
theorem escM_bd {s : ByteArray} {p r n : Nat} (h : escM s p = some (r, n)) : r ≤ 1114111 ∧ 2 ≤ n ∧ n ≤ 12 ∧ p + n ≤ s.size ∧ (r < 55296 ∨ 57343 < r) := by
  unfold escM at h
  have hb := byt_lt s (p + 1)
  split at h
  · cases h
  · split at h
    · injection h with h; injection h with h3 h4; omega
    · repeat (split at h; (injection h with h; injection h with h3 h4; omega))
      have := escU_bd h
      omega
theorem partM_bd {s : ByteArray} {p r n : Nat} (hp : p < s.size) (h : partM s p = some (r, n)) : r ≤ 1114111 ∧ 1 ≤ n ∧ n ≤ 12 ∧ p + n ≤ s.size ∧ (r < 55296 ∨ 57343 < r) := by
  unfold partM at h
  split at h
  · have := escM_bd h; omega
  · split at h
    · cases h
    · split at h
      · cases h
      · rename_i hb
        injection h with h
        have h1 := dec_fine s p hb
        have h2 := wd_pos s p
        have h3 := wd_le s p hp
        have h4 := wd_le4 s p
        unfold wd at h2 h3 h4
        rw [h] at h1 h2 h3 h4
        simp only at h1 h2 h3 h4
        omega
/-- from p on: where it ends or is wrong; the error; the runes -/
def scanGo (s : ByteArray) : Nat → Nat → List Nat → Nat × Int × List Nat
  | 0, _, acc => (s.size, 2, acc)
  | f + 1, p, acc =>
    if p < s.size then
      (if byt s p = 34 then (p + 1, 0, acc) else match partM s p with
        | none => (p, 2, acc)
        | some x => scanGo s f (p + x.2) (acc ++ [x.1]))
    else (s.size, 2, acc)
def scanM (s : ByteArray) (a : Nat) : Nat × Int × List Nat := if a < s.size ∧ byt s a = 34 then scanGo s s.size (a + 1) [] else (a, 2, [])
/-- a rune's bytes -/
def encB (r : Nat) : Bs := (Lib.encodeRuneZ (r : Int)).map fun x => UInt8.ofNat x.toNat
def encAll (l : List Nat) : Bs := l.flatMap encB
theorem runeCells_encB (r : Nat) : Lib.runeCells (r : Int) = Lib.byteCells (encB r) := by
  unfold Lib.runeCells Lib.byteCells encB
  rw [List.map_map]
  refine List.map_congr_left fun x hx => ?_
  have := Lib.encodeRuneZ_byte (r : Int) x hx
  show Value.int .u8 x = Value.int .u8 ((UInt8.ofNat x.toNat).toNat : Int)
  rw [UInt8.toNat_ofNat_of_lt' (show x.toNat < 256 by omega)]
  congr 1; omega
def unquoteM (s : ByteArray) : Bs × Nat × Int :=
  let x := scanM s 0
  if x.2.1 ≠ 0 then ([], x.1, x.2.1) else if x.1 ≠ s.size then ([], x.1, 2) else (encAll x.2.2, x.1, 0)
end Go.Proofs.YtabfojdieegklaaGreatDoor
