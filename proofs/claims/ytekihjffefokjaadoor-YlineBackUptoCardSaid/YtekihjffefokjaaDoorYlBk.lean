/-
  PLAIN MATHEMATICS: what stands in single quotes is read, wherever it stands.
-/
import Derived.Test.YtekihjffefokjaaDoorYlQ
import Derived.Test.YtekihjffefokjaaDoorYlH
namespace Go.Proofs.YtekihjffefokjaaDoor
open Go.RowKit

theorem drop_cons {t : ByteArray} {k : Nat} {x : UInt8} {l : Bs} (h : t.data.toList.drop k = x :: l) : k < t.size ∧ byt t k = x.toNat ∧ t.data.toList.drop (k + 1) = l := by
  have hlen : t.data.toList.length = t.size := Array.length_toList
  have hk : k < t.data.toList.length := by
    have := congrArg List.length h
    rw [List.length_drop, List.length_cons] at this
    omega
  have hg := List.drop_eq_getElem_cons hk
  rw [hg] at h
  injection h with h1 h2
  refine ⟨by omega, ?_, h2⟩
  rw [byt_eq t k (by omega), ← h1]; rfl
theorem drop_bytes {t : ByteArray} : ∀ {l : Bs} {k : Nat} {r : Bs}, t.data.toList.drop k = l ++ r → ∀ j (hj : j < l.length), byt t (k + j) = (l[j]'hj).toNat
  | [], k, r, _, j, hj => absurd hj (Nat.not_lt_zero j)
  | x :: l, k, r, h, j, hj => by
    obtain ⟨h1, h2, h3⟩ := drop_cons h
    cases j with
    | zero => exact h2
    | succ j =>
      rw [show k + (j + 1) = k + 1 + j by omega]
      exact drop_bytes h3 j (by simpa using hj)
theorem rune_split (s : ByteArray) (p : Nat) : s.data.toList.drop p = runeAt s p ++ s.data.toList.drop (p + wd s p) := by
  unfold runeAt
  rw [← List.drop_drop, List.take_append_drop]
theorem rune_byte (s : ByteArray) (p : Nat) (hp : p < s.size) (j : Nat) (hj : j < wd s p) : byt s (p + j) = ((runeAt s p)[j]'(by rw [runeAt_len s p hp]; exact hj)).toNat :=
  drop_bytes (rune_split s p) j (by rw [runeAt_len s p hp]; exact hj)
theorem dblB_app (a b : Bs) : dblB (a ++ b) = dblB a ++ dblB b := by unfold dblB subst1; exact List.flatMap_append
theorem dblB_no {l : Bs} (h : ∀ b ∈ l, b ≠ 39) : dblB l = l := subst1_none (by
  rw [List.count_eq_zero]
  exact fun hh => h 39 hh rfl)
theorem rune_no (s : ByteArray) (p : Nat) (hp : p < s.size) (h : byt s p ≠ 39) : ∀ b ∈ runeAt s p, b ≠ 39 := by
  intro b hb e
  obtain ⟨j, hj, hbj⟩ := List.mem_iff_getElem.1 hb
  rw [runeAt_len s p hp] at hj
  have hbj2 := rune_byte s p hp j hj
  rw [hbj, e] at hbj2
  by_cases h0 : j = 0
  · subst h0; exact h hbj2
  · have := wd_cont s p j (by omega) hj
    rw [hbj2] at this
    exact absurd this (by decide)

theorem single_back (s t : ByteArray) (rest : Bs) (hr : ∀ l, rest ≠ 39 :: l) : ∀ (f p k g : Nat) (acc : Bs), (vld s f p).2 = true → (∀ i, p ≤ i → i < s.size → 32 ≤ byt s i) → p ≤ s.size → s.size ≤ p + f →
    t.data.toList.drop k = dblB (s.data.toList.drop p) ++ 39 :: rest → t.size ≤ k + g → sglGo t g k acc = (acc ++ s.data.toList.drop p, k + (dblB (s.data.toList.drop p)).length + 1, 0) := by
  have fin : ∀ (p k g : Nat) (acc : Bs), p = s.size → t.data.toList.drop k = dblB (s.data.toList.drop p) ++ 39 :: rest → t.size ≤ k + g → sglGo t g k acc = (acc ++ s.data.toList.drop p, k + (dblB (s.data.toList.drop p)).length + 1, 0) := by
    intro p k g acc hp h hg
    have hnil : s.data.toList.drop p = [] := List.drop_eq_nil_of_le (by rw [Array.length_toList, hp]; exact Nat.le_refl _)
    rw [hnil] at h ⊢
    obtain ⟨h1, h2, h3⟩ := drop_cons (show t.data.toList.drop k = 39 :: rest from h)
    obtain ⟨g, rfl⟩ : ∃ g', g = g' + 1 := ⟨g - 1, by omega⟩
    have hn : ¬ (k + 1 < t.size ∧ byt t (k + 1) = 39) := by
      rintro ⟨q1, q2⟩
      cases rest with
      | nil =>
        have := congrArg List.length h3
        rw [List.length_drop, Array.length_toList, List.length_nil] at this
        have e : t.data.size = t.size := rfl
        omega
      | cons x l =>
        have q3 := (drop_cons h3).2.1
        rw [q2] at q3
        exact hr l (by rw [show x = 39 from (UInt8.toNat_inj.1 q3.symm)])
    rw [sglGo_ok h1 (by rw [h2]; rfl) hn, List.append_nil]
    rfl
  intro f
  induction f with
  | zero =>
    intro p k g acc _ _ hp hf h hg
    exact fin p k g acc (by omega) h hg
  | succ f ih =>
    intro p k g acc hv hc hp hf h hg
    by_cases hps : p < s.size
    · have hnb : ¬ bad s p := fun hb => by
        unfold vld at hv
        rw [if_pos hps, if_pos hb] at hv
        cases hv
      have hvn : (vld s f (p + wd s p)).2 = true := by
        unfold vld at hv
        rw [if_pos hps, if_neg hnb] at hv
        exact hv
      have hw := wd_pos s p
      have hwl := wd_le s p hps
      have hsp := rune_split s p
      have h32 := hc p (Nat.le_refl _) hps
      by_cases h39 : byt s p = 39
      · have hru : runeAt s p = [39] := by rw [runeAt_low s p hps (by omega), h39]; rfl
        have hw1 : wd s p = 1 := wd_low s p (by omega)
        rw [hru, hw1] at hsp
        have hd : dblB (s.data.toList.drop p) = 39 :: 39 :: dblB (s.data.toList.drop (p + 1)) := by rw [hsp, dblB_app]; rfl
        rw [hd] at h ⊢
        obtain ⟨a1, a2, a3⟩ := drop_cons (show t.data.toList.drop k = 39 :: (39 :: (dblB (s.data.toList.drop (p + 1)) ++ 39 :: rest)) from h)
        obtain ⟨b1, b2, b3⟩ := drop_cons a3
        obtain ⟨g, rfl⟩ : ∃ g', g = g' + 1 := ⟨g - 1, by omega⟩
        rw [sglGo_two a1 (by rw [a2]; rfl) b1 (by rw [b2]; rfl)]
        rw [hw1] at hvn
        rw [ih (p + 1) (k + 2) g (acc ++ [39]) hvn (fun i h1 h2 => hc i (by omega) h2) (by omega) (by omega) b3 (by omega), hsp]
        simp only [List.length_cons, List.append_assoc, List.cons_append, List.nil_append, Prod.mk.injEq, and_true, true_and]
        omega
      · have hd : dblB (s.data.toList.drop p) = runeAt s p ++ dblB (s.data.toList.drop (p + wd s p)) := by
          rw [hsp, dblB_app, dblB_no (rune_no s p hps h39)]
        have hrl := runeAt_len s p hps
        rw [hd, List.append_assoc] at h
        have hby : ∀ j, j < wd s p → byt t (k + j) = byt s (p + j) := fun j hj => by
          rw [rune_byte s p hps j hj]
          exact drop_bytes h j (by rw [hrl]; exact hj)
        have hlen := congrArg List.length h
        rw [List.length_drop, Array.length_toList, List.length_append, hrl, List.length_append, List.length_cons] at hlen
        have hts : t.data.size = t.size := rfl
        have hkt : k + wd s p < t.size := by omega
        have hdec := dec_same s t p k hnb (by omega) hby
        have hwt : wd t k = wd s p := by unfold wd; rw [hdec]
        have hbt : ¬ bad t k := by unfold bad at hnb ⊢; rw [hdec]; exact hnb
        have hk0 : byt t k = byt s p := hby 0 (by omega)
        have hdr : t.data.toList.drop (k + wd s p) = dblB (s.data.toList.drop (p + wd s p)) ++ 39 :: rest := by
          rw [← List.drop_drop, h, List.drop_left' hrl]
        have hrt : runeAt t k = runeAt s p := by
          unfold runeAt at hrl ⊢
          rw [hwt]
          show (t.data.toList.drop k).take (wd s p) = _
          rw [h]
          exact List.take_left' hrl
        obtain ⟨g, rfl⟩ : ∃ g', g = g' + 1 := ⟨g - 1, by omega⟩
        rw [sglGo_rune (by omega) (by omega) (fun hh => hh.elim hbt (fun h => by omega)), hwt, hrt]
        rw [ih (p + wd s p) (k + wd s p) g (acc ++ runeAt s p) hvn (fun i h1 h2 => hc i (by omega) h2) hwl (by omega) hdr (by omega), hd]
        rw [List.append_assoc, ← hsp, List.length_append, hrl]
        simp only [Prod.mk.injEq, and_true, true_and]
        omega
    · exact fin p k g acc (by omega) h hg

/-- what Quoted makes is read by Single -/
theorem sgl_quoted (s F B : ByteArray) (h : cleanM s false = s.size) (hb : ∀ l, B.data.toList ≠ 39 :: l) :
    sglM (F ++ st (39 :: dblB s.data.toList ++ [39]) ++ B) (F.size : Int) = (s.data.toList, F.size + (39 :: dblB s.data.toList ++ [39]).length, 0) := by
  have hl : (F ++ st (39 :: dblB s.data.toList ++ [39]) ++ B).data.toList = F.data.toList ++ (39 :: (dblB s.data.toList ++ 39 :: B.data.toList)) := by
    simp [st]
  have hd : (F ++ st (39 :: dblB s.data.toList ++ [39]) ++ B).data.toList.drop F.size = 39 :: (dblB s.data.toList ++ 39 :: B.data.toList) := by
    rw [hl]
    exact List.drop_left' Array.length_toList
  generalize F ++ st (39 :: dblB s.data.toList ++ [39]) ++ B = t at *
  obtain ⟨h1, h2, h3⟩ := drop_cons hd
  obtain ⟨c1, c2⟩ := clnM_ok s false s.size 0 (by omega) (Nat.zero_le _) h
  have key := single_back s t B.data.toList hb s.size 0 (F.size + 1) t.size [] c2 (fun i _ hi => (c1 i (Nat.zero_le _) hi).1) (Nat.zero_le _) (by omega) h3 (by omega)
  have e1 : ¬ ((F.size : Int) < 0 ∨ (t.size : Int) < (F.size : Int)) := by omega
  have e2 : ¬ (F.size = t.size ∨ byt t F.size ≠ 39) := fun hh => hh.elim (fun h => by omega) (fun h => h (by rw [h2]; rfl))
  unfold sglM
  simp only [if_neg e1, Int.toNat_natCast, if_neg e2]
  rw [key, List.drop_zero, List.nil_append]
  simp only [List.length_append, List.length_cons, List.length_nil, Prod.mk.injEq, and_true, true_and]
  omega
end Go.Proofs.YtekihjffefokjaaDoor
