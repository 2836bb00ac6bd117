/-
  PLAIN MATHEMATICS: a part of a text that is cut off is that part; an escape's bytes are ASCII.
-/
import Derived.Test.YtabfojdieegklaaGreatDoorUnqE
namespace Go.Proofs.YtabfojdieegklaaGreatDoor
open Go.RowKit

theorem partM_sub (s : ByteArray) (p : Nat) (hp : p < s.size) : partM (s.extract p s.size) 0 = partM s p := by
  have hsz : (s.extract p s.size).size = s.size - p := by rw [ByteArray.size_extract]; omega
  have b0 : byt (s.extract p s.size) 0 = byt s p := byt_sub s p s.size 0 (Nat.le_refl _) (by omega)
  have hd : Utf8.decode (s.extract p s.size) 0 = Utf8.decode s p := by
    have := dec_cut s p s.size 0 (Nat.le_refl _) (.inl rfl) (by omega)
    simpa using this
  have hbad : bad (s.extract p s.size) 0 ↔ bad s p := by unfold bad; rw [hd]
  have hesc : escM (s.extract p s.size) 0 = escM s p := by
    unfold escM
    rw [hsz]
    by_cases h2 : s.size < p + 2
    · rw [if_pos h2, if_pos (by omega)]
    · have b1 : byt (s.extract p s.size) (0 + 1) = byt s (p + 1) := by rw [byt_sub s p s.size (0 + 1) (Nat.le_refl _) (by omega)]
      rw [if_neg h2, if_neg (by omega), b1]
      have hu : escU (s.extract p s.size) 0 = escU s p := by
        unfold escU
        rw [uni_sub s p 0 (by omega), uni_sub s p (0 + 6) (by omega)]
        rfl
      rw [hu]
  unfold partM
  rw [b0, hesc, hd]
  by_cases hb : bad s p
  · rw [if_pos hb, if_pos (hbad.2 hb)]
  · rw [if_neg hb, if_neg (fun h => hb (hbad.1 h))]
theorem uni_ascii {s : ByteArray} {p n : Nat} (h : uni s p = some n) : ∀ j, j < 6 → byt s (p + j) < 128 := by
  unfold uni at h
  split at h
  · rename_i hh
    obtain ⟨_, h0, h1⟩ := hh
    unfold hex4 at h
    split at h
    · rename_i x y z u q2 q3 q4 q5
      have := (hexv_lt q2).2; have := (hexv_lt q3).2; have := (hexv_lt q4).2; have := (hexv_lt q5).2
      intro j hj
      match j, hj with
      | 0, _ => rw [Nat.add_zero]; omega
      | 1, _ => omega
      | 2, _ => assumption
      | 3, _ => assumption
      | 4, _ => assumption
      | 5, _ => assumption
      | j + 6, hj => omega
    · cases h
  · cases h
theorem escU_ascii {s : ByteArray} {p r n : Nat} (h : escU s p = some (r, n)) : ∀ j, j < n → byt s (p + j) < 128 := by
  unfold escU at h
  split at h
  · cases h
  · rename_i a ha
    have h1 := uni_ascii ha
    split at h
    · cases h
    · split at h
      · injection h with h; injection h with h3 h4; subst h4; exact h1
      · split at h
        · cases h
        · rename_i b hb
          have h2 := uni_ascii hb
          split at h
          · cases h
          · injection h with h; injection h with h3 h4; subst h4
            intro j hj
            by_cases h6 : j < 6
            · exact h1 j h6
            · have := h2 (j - 6) (by omega)
              rwa [show p + 6 + (j - 6) = p + j by omega] at this
theorem escM_ascii {s : ByteArray} {p r n : Nat} (h92 : byt s p = 92) (h : escM s p = some (r, n)) : ∀ j, j < n → byt s (p + j) < 128 := by
  have two : byt s (p + 1) < 128 → n = 2 → ∀ j, j < n → byt s (p + j) < 128 := fun h1 hn j hj => by
    subst hn
    match j, hj with
    | 0, _ => rw [Nat.add_zero]; omega
    | 1, _ => exact h1
    | j + 2, hj => omega
  unfold escM at h
  split at h
  · cases h
  · split at h
    · rename_i hc; injection h with h; injection h with h3 h4; exact two (by omega) h4.symm
    · repeat (split at h; (rename_i hc; injection h with h; injection h with h3 h4; exact two (by omega) h4.symm))
      exact escU_ascii h
end Go.Proofs.YtabfojdieegklaaGreatDoor
