/-
  PLAIN MATHEMATICS: a token that stands elsewhere is that token.
-/
import Derived.Test.YtleabaldjlbnlaaDoorLexM
import Derived.Test.YtleabaldjlbnlaaDoorUnqC
namespace Go.Proofs.YtleabaldjlbnlaaDoor
open Go.RowKit

theorem uni_same {s t : ByteArray} {p q m : Nat} (h : uni s p = some m) (hq' : q + 6 ≤ t.size) (he : ∀ j, j < 6 → byt t (q + j) = byt s (p + j)) : uni t q = some m := by
  unfold uni at h ⊢
  have h0 := he 0 (by omega)
  rw [Nat.add_zero, Nat.add_zero] at h0
  rw [h0, he 1 (by omega), he 2 (by omega), he 3 (by omega), he 4 (by omega), he 5 (by omega)]
  split at h
  · rename_i hc; rw [if_pos ⟨hq', hc.2⟩]; exact h
  · cases h
theorem escU_same {s t : ByteArray} {p q r n : Nat} (h : escU s p = some (r, n)) (hq' : q + n ≤ t.size) (he : ∀ j, j < n → byt t (q + j) = byt s (p + j)) : escU t q = some (r, n) := by
  have hbd := (escU_bd h).2.1
  unfold escU at h ⊢
  cases hu : uni s p with
  | none => rw [hu] at h; cases h
  | some m =>
    rw [hu] at h
    rw [uni_same hu (by omega) (fun j hj => he j (by omega))]
    simp only at h ⊢
    split at h
    · cases h
    · rename_i c1
      rw [if_neg c1]
      split at h
      · rename_i c2; rw [if_pos c2]; exact h
      · rename_i c2
        rw [if_neg c2]
        cases hu2 : uni s (p + 6) with
        | none => rw [hu2] at h; cases h
        | some m2 =>
          rw [hu2] at h
          simp only at h
          have hn : n = 12 := by
            split at h
            · cases h
            · exact (congrArg Prod.snd (Option.some.inj h)).symm
          subst hn
          have he2 : ∀ j, j < 6 → byt t (q + 6 + j) = byt s (p + 6 + j) := fun j hj => by
            have := he (6 + j) (by clear h he hbd; omega)
            rwa [← Nat.add_assoc, ← Nat.add_assoc] at this
          rw [uni_same hu2 (q := q + 6) (by clear h he hbd he2; omega) he2]
          exact h
theorem escM_same {s t : ByteArray} {p q r n : Nat} (h : escM s p = some (r, n)) (hq' : q + n ≤ t.size) (he : ∀ j, j < n → byt t (q + j) = byt s (p + j)) : escM t q = some (r, n) := by
  have hbd := escM_bd h
  unfold escM at h ⊢
  rw [he 1 (by omega), if_neg (by omega)]
  rw [if_neg (by omega)] at h
  by_cases c1 : byt s (p + 1) = 34 ∨ byt s (p + 1) = 92 ∨ byt s (p + 1) = 47
  · rw [if_pos c1] at h ⊢; exact h
  · rw [if_neg c1] at h ⊢
    by_cases c2 : byt s (p + 1) = 98
    · rw [if_pos c2] at h ⊢; exact h
    · rw [if_neg c2] at h ⊢
      by_cases c3 : byt s (p + 1) = 102
      · rw [if_pos c3] at h ⊢; exact h
      · rw [if_neg c3] at h ⊢
        by_cases c4 : byt s (p + 1) = 110
        · rw [if_pos c4] at h ⊢; exact h
        · rw [if_neg c4] at h ⊢
          by_cases c5 : byt s (p + 1) = 114
          · rw [if_pos c5] at h ⊢; exact h
          · rw [if_neg c5] at h ⊢
            by_cases c6 : byt s (p + 1) = 116
            · rw [if_pos c6] at h ⊢; exact h
            · rw [if_neg c6] at h ⊢
              exact escU_same h hq' he
theorem partM_same {s t : ByteArray} {p q r n : Nat} (hp : p < s.size) (h : partM s p = some (r, n)) (hq' : q + n ≤ t.size) (he : ∀ j, j < n → byt t (q + j) = byt s (p + j)) : partM t q = some (r, n) := by
  have hbd := partM_bd hp h
  have h0 := he 0 (by omega)
  rw [Nat.add_zero, Nat.add_zero] at h0
  unfold partM at h ⊢
  rw [h0]
  by_cases c1 : byt s p = 92
  · rw [if_pos c1] at h ⊢; exact escM_same h hq' he
  · rw [if_neg c1] at h ⊢
    by_cases c2 : byt s p < 32
    · rw [if_pos c2] at h; cases h
    · rw [if_neg c2] at h ⊢
      by_cases c3 : bad s p
      · rw [if_pos c3] at h; cases h
      · rw [if_neg c3] at h
        injection h with h
        have hw : wd s p = n := by unfold wd; rw [h]
        have hd := dec_same s t p q c3 (by rw [hw]; exact hq') (fun j hj => he j (by omega))
        rw [if_neg (by unfold bad at c3 ⊢; rw [hd]; exact c3), hd, h]
theorem scan_same (s t : ByteArray) : ∀ (f p q g : Nat) (acc : List Nat) (e : Nat) (rs : List Nat), p ≤ s.size → scanGo s f p acc = (e, 0, rs) → q + (e - p) ≤ t.size → (∀ j, j < e - p → byt t (q + j) = byt s (p + j)) → t.size ≤ q + g →
    scanGo t g q acc = (q + (e - p), 0, rs)
  | 0, p, q, g, acc, e, rs, _, h, _, _, _ => by
    unfold scanGo at h
    injection h with _ h; injection h with h _; cases h
  | f + 1, p, q, g, acc, e, rs, hps, h, hq', he, hg => by
    have hge := scanGo_ge s (f + 1) p acc hps
    rw [h] at hge
    have hlt := hge.2.2 rfl
    simp only at hlt
    unfold scanGo at h
    have hp : p < s.size := by
      rcases Nat.lt_or_ge p s.size with hp | hp
      · exact hp
      · rw [if_neg (by omega)] at h
        injection h with _ h; injection h with h _; cases h
    rw [if_pos hp] at h
    obtain ⟨g, rfl⟩ : ∃ i, g = i + 1 := ⟨g - 1, by omega⟩
    have h0 := he 0 (by omega)
    rw [Nat.add_zero, Nat.add_zero] at h0
    rw [scanGo, if_pos (by omega), h0]
    by_cases h34 : byt s p = 34
    · rw [if_pos h34] at h ⊢
      injection h with h1 h; injection h with _ h2
      rw [h2, ← h1]
      simp only [Prod.mk.injEq, and_true]
      omega
    · rw [if_neg h34] at h ⊢
      cases hpm : partM s p with
      | none =>
        rw [hpm] at h
        injection h with _ h; injection h with h _; cases h
      | some x =>
        obtain ⟨r, n⟩ := x
        have hbd := partM_bd hp hpm
        rw [hpm] at h
        simp only at h
        have hge2 := (scanGo_ge s f (p + n) (acc ++ [r]) hbd.2.2.2.1).2.2
        rw [h] at hge2
        have hlt2 := hge2 rfl
        simp only at hlt2
        rw [partM_same hp hpm (q := q) (by omega) (fun j hj => he j (by omega))]
        simp only
        rw [scan_same s t f (p + n) (q + n) g (acc ++ [r]) e rs hbd.2.2.2.1 h (by omega) (fun j hj => by have := he (n + j) (by omega); rwa [← Nat.add_assoc, ← Nat.add_assoc] at this) (by omega)]
        simp only [Prod.mk.injEq, and_true]
        omega
theorem scanM_same {s t : ByteArray} {p q e : Nat} {rs : List Nat} (h : scanM s p = (e, 0, rs)) (hq' : q + (e - p) ≤ t.size) (he : ∀ j, j < e - p → byt t (q + j) = byt s (p + j)) : scanM t q = (q + (e - p), 0, rs) := by
  unfold scanM at h
  split at h
  · rename_i hc
    have hge := (scanGo_ge s s.size (p + 1) [] (by omega)).2.2
    rw [h] at hge
    have hlt := hge rfl
    simp only at hlt
    have h0 := he 0 (by omega)
    rw [Nat.add_zero, Nat.add_zero] at h0
    unfold scanM
    rw [if_pos ⟨by omega, by rw [h0]; exact hc.2⟩]
    rw [scan_same s t s.size (p + 1) (q + 1) t.size [] e rs (by omega) h (by omega) (fun j hj => by have := he (1 + j) (by omega); rwa [← Nat.add_assoc, ← Nat.add_assoc] at this) (by omega)]
    simp only [Prod.mk.injEq, and_true]
    omega
  · injection h with _ h; injection h with h _; cases h

theorem runTo_all (t : ByteArray) (w : Nat → Bool) : ∀ (n q : Nat), q + n ≤ t.size → (∀ j, j < n → w (byt t (q + j)) = true) → runTo t w q = runTo t w (q + n)
  | 0, q, _, _ => rfl
  | n + 1, q, hq', h => by
    have h0 := h 0 (by omega)
    rw [Nat.add_zero] at h0
    rw [runTo_step (by omega) h0, runTo_all t w n (q + 1) (by omega) (fun j hj => by have := h (1 + j) (by omega); rwa [← Nat.add_assoc] at this)]
    congr 1; omega
theorem runTo_same {s t : ByteArray} {w : Nat → Bool} {p q e : Nat} (_ : p ≤ s.size) (h : runTo s w p = e) (hq' : q + (e - p) ≤ t.size) (he : ∀ j, j < e - p → byt t (q + j) = byt s (p + j)) (ht : q + (e - p) = t.size ∨ w (byt t (q + (e - p))) = false) : runTo t w q = q + (e - p) := by
  have hge := runTo_ge s w p
  rw [runTo_all t w (e - p) q hq' (fun j hj => by rw [he j hj]; exact runTo_in s w p (p + j) (by omega) (by omega))]
  rcases ht with h1 | h1
  · exact runTo_end (by omega)
  · exact runTo_stop h1
theorem sub_same {s t : ByteArray} {p q e : Nat} (hpe : p ≤ e) (hs : e ≤ s.size) (hq' : q + (e - p) ≤ t.size) (he : ∀ j, j < e - p → byt t (q + j) = byt s (p + j)) : sub t q (q + (e - p)) = sub s p e := by
  refine List.ext_getElem (by rw [sub_len _ _ _ hq', sub_len _ _ _ hs]; omega) fun i h1 h2 => ?_
  rw [sub_len _ _ _ hs] at h2
  have e1 : (sub t q (q + (e - p)))[i]'h1 = t[q + i]'(by omega) := by
    simp only [sub, Array.getElem_toList]
    exact ByteArray.getElem_extract ..
  have h2' : i < (sub s p e).length := by rw [sub_len _ _ _ hs]; exact h2
  have e2 : (sub s p e)[i]'h2' = s[p + i]'(by omega) := by
    simp only [sub, Array.getElem_toList]
    exact ByteArray.getElem_extract ..
  rw [e1, e2]
  have := he i h2
  rw [byt_eq t (q + i) (by omega), byt_eq s (p + i) (by omega)] at this
  exact UInt8.toNat_inj.1 this
/-- a token that stands at q as it stood at p, where what follows does not belong to it -/
theorem oneM_same {s t : ByteArray} {p q kd e : Nat} (hp : p < s.size) (h : oneM s p = (kd, e, 0)) (hq' : q + (e - p) ≤ t.size) (he : ∀ j, j < e - p → byt t (q + j) = byt s (p + j))
    (ht : q + (e - p) = t.size ∨ byt t (q + (e - p)) = 44 ∨ (e < s.size ∧ byt t (q + (e - p)) = byt s e)) : oneM t q = (kd, q + (e - p), 0) := by
  have hbd := oneM_bd s p hp
  rw [h] at hbd
  simp only at hbd
  obtain ⟨hpe, hes, _, hb4⟩ := hbd
  have hlt := (hb4 trivial).1
  have h0 := he 0 (by omega)
  rw [Nat.add_zero, Nat.add_zero] at h0
  have htw : ∀ w : Nat → Bool, w 44 = false → runTo s w p = e → q + (e - p) = t.size ∨ w (byt t (q + (e - p))) = false := by
    intro w hw hr
    rcases ht with h1 | h1 | ⟨h1, h2⟩
    · exact .inl h1
    · right; rw [h1]; exact hw
    · right
      rw [h2, ← hr]
      exact runTo_out s w p (by omega) (by omega)
  unfold oneM at h ⊢
  simp only at h ⊢
  rw [h0]
  by_cases c1 : signM (byt s p) ≠ 0
  · rw [if_pos c1] at h ⊢
    injection h with h1 h; injection h with h2 _
    rw [h1, ← h2]
    simp only [Prod.mk.injEq, and_true, true_and]
    omega
  · rw [if_neg c1] at h ⊢
    by_cases c2 : isBlank (byt s p) = true
    · rw [if_pos c2] at h ⊢
      injection h with h1 h; injection h with h2 _
      rw [h1, runTo_same (by omega) h2 hq' he (htw _ rfl h2)]
    · rw [if_neg c2] at h ⊢
      by_cases c3 : byt s p = 34
      · rw [if_pos c3] at h ⊢
        injection h with h1 h; injection h with h2 h3
        have hsc : scanM s p = (e, 0, (scanM s p).2.2) := by rw [← h2, ← h3]
        rw [scanM_same hsc hq' he, h1]
      · rw [if_neg c3] at h ⊢
        by_cases c4 : byt s p = 45 ∨ 48 ≤ byt s p ∧ byt s p ≤ 57
        · rw [if_pos c4] at h ⊢
          split at h
          · rename_i h5
            injection h with _ h; injection h with _ h; exact absurd h h5
          · rename_i h5
            injection h with h1 h; injection h with h2 _
            have hr := runTo_same (by omega) h2 hq' he (htw _ rfl h2)
            rw [hr, sub_same hpe hes hq' he]
            rw [h2] at h5
            rw [if_neg h5, h1]
        · rw [if_neg c4] at h ⊢
          split at h
          · rename_i h5
            injection h with h1 h; injection h with h2 _
            have hr := runTo_same (by omega) h2 hq' he (htw _ rfl h2)
            rw [hr, sub_same hpe hes hq' he]
            rw [h2] at h5 h1
            rw [if_pos h5, h1]
          · injection h with _ h; injection h with _ h; cases h
end Go.Proofs.YtleabaldjlbnlaaDoor
