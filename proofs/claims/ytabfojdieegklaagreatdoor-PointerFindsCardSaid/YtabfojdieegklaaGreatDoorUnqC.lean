/-
  PLAIN MATHEMATICS: runes' bytes; decoding is local; what a scan hands on.
-/
import Derived.Test.YtabfojdieegklaaGreatDoorUnqM
import Derived.Test.YtabfojdieegklaaGreatDoorBas
namespace Go.Proofs.YtabfojdieegklaaGreatDoor
open Go.RowKit

theorem decN_same (n m b0 b1 b2 b3 c1 c2 c3 : Nat) (hb : ¬ ((Lib.decodeN n b0 b1 b2 b3).1 = 65533 ∧ (Lib.decodeN n b0 b1 b2 b3).2 = 1)) (hm : (Lib.decodeN n b0 b1 b2 b3).2 ≤ m)
    (e1 : 1 < (Lib.decodeN n b0 b1 b2 b3).2 → c1 = b1) (e2 : 2 < (Lib.decodeN n b0 b1 b2 b3).2 → c2 = b2) (e3 : 3 < (Lib.decodeN n b0 b1 b2 b3).2 → c3 = b3) :
    Lib.decodeN m b0 c1 c2 c3 = Lib.decodeN n b0 b1 b2 b3 := by
  revert hb hm e1 e2 e3
  unfold Lib.decodeN
  by_cases h0 : b0 < 128
  · rw [if_pos h0, if_pos h0]; intros; rfl
  · rw [if_neg h0, if_neg h0]
    by_cases g2 : b0 / 32 = 6 ∧ (1 < n ∧ b1 / 64 = 2)
    · rw [if_pos g2]
      by_cases k2 : b0 % 32 * 64 + b1 % 64 ≥ 128
      · rw [if_pos k2]
        intro hb hm e1 e2 e3
        simp only at hm e1 e2 e3
        obtain rfl := e1 (by omega)
        rw [if_pos ⟨g2.1, by omega, g2.2.2⟩, if_pos k2]
      · rw [if_neg k2]
        intro hb; simp at hb
    · rw [if_neg g2]
      by_cases g3 : b0 / 16 = 14 ∧ (1 < n ∧ b1 / 64 = 2) ∧ (2 < n ∧ b2 / 64 = 2)
      · rw [if_pos g3]
        split
        · rename_i k3
          intro hb hm e1 e2 e3
          simp only at hm e1 e2 e3
          obtain rfl := e1 (by omega)
          obtain rfl := e2 (by omega)
          rw [if_neg (by omega), if_pos ⟨g3.1, ⟨by omega, g3.2.1.2⟩, by omega, g3.2.2.2⟩, if_pos k3]
        · intro hb; simp at hb
      · rw [if_neg g3]
        split
        · rename_i g4
          split
          · rename_i k4
            intro hb hm e1 e2 e3
            simp only at hm e1 e2 e3
            obtain rfl := e1 (by omega)
            obtain rfl := e2 (by omega)
            obtain rfl := e3 (by omega)
            rw [if_neg (by omega), if_neg (by omega), if_pos ⟨g4.1, ⟨by omega, g4.2.1.2⟩, ⟨by omega, g4.2.2.1.2⟩, by omega, g4.2.2.2.2⟩, if_pos k4]
          · intro hb; simp at hb
        · intro hb; simp at hb
theorem dec_same (s t : ByteArray) (p q : Nat) (hb : ¬ bad s p) (hq' : q + wd s p ≤ t.size) (he : ∀ j, j < wd s p → byt t (q + j) = byt s (p + j)) : Utf8.decode t q = Utf8.decode s p := by
  have h0 := he 0 (wd_pos s p)
  have h1 := he 1
  have h2 := he 2
  have h3 := he 3
  unfold bad at hb
  unfold wd at h1 h2 h3 hq'
  rw [dec_eq] at hb h1 h2 h3 hq'
  rw [dec_eq t, dec_eq s, show byt t q = byt s p from h0]
  exact decN_same _ _ _ _ _ _ _ _ _ hb (by omega) h1 h2 h3

theorem encB_len (r : Nat) : (encB r).length ≤ 4 := by
  unfold encB
  rw [List.length_map]
  unfold Lib.encodeRuneZ
  repeat' split
  all_goals simp
theorem encAll_snoc (l : List Nat) (r : Nat) : encAll (l ++ [r]) = encAll l ++ encB r := by unfold encAll; rw [List.flatMap_append]; simp

/-- runes that may stand in a text -/
def RunesOk (l : List Nat) : Prop := ∀ r ∈ l, r ≤ 1114111 ∧ (r < 55296 ∨ 57343 < r)
theorem scanGo_ok (s : ByteArray) : ∀ (f p : Nat) (acc : List Nat), RunesOk acc → RunesOk (scanGo s f p acc).2.2 ∧ (scanGo s f p acc).1 ≤ s.size
  | 0, p, acc, h => ⟨h, Nat.le_refl _⟩
  | f + 1, p, acc, h => by
    unfold scanGo
    by_cases hp : p < s.size
    · rw [if_pos hp]
      by_cases h34 : byt s p = 34
      · rw [if_pos h34]; exact ⟨h, hp⟩
      · rw [if_neg h34]
        cases hpm : partM s p with
        | none => exact ⟨h, Nat.le_of_lt hp⟩
        | some x =>
          obtain ⟨r, n⟩ := x
          have hbd := partM_bd hp hpm
          refine scanGo_ok s f (p + n) (acc ++ [r]) fun x hx => ?_
          rcases List.mem_append.1 hx with h1 | h1
          · exact h x h1
          · rw [List.mem_singleton.1 h1]; exact ⟨hbd.1, hbd.2.2.2.2⟩
    · rw [if_neg hp]; exact ⟨h, Nat.le_refl _⟩
theorem encB_st (r : Nat) (h : r < 55296 ∨ 57344 ≤ r ∧ r ≤ 1114111) : Utf8.encode (r : Int) = st (encB r) := by
  rw [enc_valid r h]
  unfold encB
  by_cases h1 : r < 128
  · rw [if_pos h1, Lib.encodeRuneZ_one (by omega) (by omega)]
    rfl
  · rw [if_neg h1]
    by_cases h2 : r < 2048
    · rw [if_pos h2, Lib.encodeRuneZ_two (by omega) (by omega)]
      exact mk2 (by omega) (by omega)
    · rw [if_neg h2]
      by_cases h3 : r < 65536
      · rw [if_pos h3, Lib.encodeRuneZ_three (by omega)]
        exact mk3 (by omega) (by omega) (by omega)
      · rw [if_neg h3, Lib.encodeRuneZ_four (by omega) (by omega)]
        exact mk4 (by omega) (by omega) (by omega) (by omega)
theorem cat_bytes (a b : Bs) : st a ++ st b = st (a ++ b) := by
  refine ba_ext ?_
  simp [st]

def UnqPost (u : Bs × Nat × Int) (w : World) (e : Ending) (w' : World) : Prop := e = .returned (.tuple #[.string (st u.1), .int .i64 (u.2.1 : Int), .int .i64 u.2.2]) ∧ Below w.heap.size w w'
end Go.Proofs.YtabfojdieegklaaGreatDoor
