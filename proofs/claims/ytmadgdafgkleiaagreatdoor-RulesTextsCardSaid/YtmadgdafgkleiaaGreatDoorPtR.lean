/-
  MATHEMATICS: paths as texts and back.
-/
import Derived.Test.YtmadgdafgkleiaaGreatDoorPtp
import Derived.Test.YtmadgdafgkleiaaGreatDoorUnqD
namespace Go.Proofs.YtmadgdafgkleiaaGreatDoor
open Go.RowKit
theorem valid_runes {l : Bs} (h : (valid (st l)).2 = true) : ∃ rs, RunesOk rs ∧ encAll rs = l := by
  obtain ⟨rs, h1, h2⟩ := scan_at (st l) (st (quoteM (st l)).1) 0 h ⟨[], by rw [st_list, List.append_nil]; rfl⟩
  refine ⟨rs, ?_, by rw [h1, st_list]⟩
  have ho : RunesOk (scanM (st (quoteM (st l)).1) 0).2.2 := by
    unfold scanM
    split
    · exact (scanGo_ok _ _ _ [] (fun x hx => by cases hx)).1
    · exact fun x hx => by cases hx
  rw [h2] at ho
  exact ho
theorem runes_valid {l : Bs} {rs : List Nat} (h : RunesOk rs) (e : encAll rs = l) : (valid (st l)).2 = true := by rw [← e]; exact valid_enc rs h
theorem encB_low {r : Nat} (h : r < 128) : encB r = [UInt8.ofNat r] := by
  unfold encB
  rw [Lib.encodeRuneZ_one (by omega) (by omega)]
  simp
theorem encB_high {r : Nat} (h : 128 ≤ r) : ∀ b ∈ encB r, 128 ≤ b.toNat := by
  intro b hb
  unfold encB at hb
  obtain ⟨x, hx, rfl⟩ := List.mem_map.1 hb
  have hx2 : 128 ≤ x ∧ x < 256 := by
    unfold Lib.encodeRuneZ at hx
    split at hx
    · omega
    · split at hx
      · simp only [List.mem_cons, List.not_mem_nil, or_false] at hx
        rcases hx with h | h <;> omega
      · split at hx
        · simp only [List.mem_cons, List.not_mem_nil, or_false] at hx
          rcases hx with h | h | h <;> omega
        · split at hx
          · simp only [List.mem_cons, List.not_mem_nil, or_false] at hx
            rcases hx with h | h | h | h <;> omega
          · simp only [List.mem_cons, List.not_mem_nil, or_false] at hx
            rcases hx with h | h | h <;> omega
  rw [ofNat_toNat (by omega)]
  omega
def pescR (r : Nat) : List Nat := if r = 126 then [126, 48] else if r = 47 then [126, 49] else [r]
theorem encAll_app (a b : List Nat) : encAll (a ++ b) = encAll a ++ encAll b := by unfold encAll; rw [List.flatMap_append]
theorem encAll_cons (r : Nat) (b : List Nat) : encAll (r :: b) = encB r ++ encAll b := rfl
theorem pesc_free : ∀ x : Bs, (∀ b ∈ x, 128 ≤ b.toNat) → pesc x = x
  | [], _ => rfl
  | b :: x, h => by
    have hb := h b (List.mem_cons_self ..)
    have h1 : b ≠ 126 := fun e => by rw [e] at hb; exact absurd hb (by decide)
    have h2 : b ≠ 47 := fun e => by rw [e] at hb; exact absurd hb (by decide)
    rw [pesc_cons, if_neg h1, if_neg h2, pesc_free x (fun c hc => h c (List.mem_cons_of_mem _ hc))]
    rfl
theorem pesc_encB (r : Nat) : pesc (encB r) = encAll (pescR r) := by
  by_cases hr : r < 128
  · rw [encB_low hr, pesc_one]
    unfold pescR
    by_cases h1 : r = 126
    · subst h1; kernel_rfl
    · by_cases h2 : r = 47
      · subst h2; kernel_rfl
      · have e1 : UInt8.ofNat r ≠ 126 := fun e => h1 (by have := congrArg UInt8.toNat e; rw [ofNat_toNat (by omega)] at this; exact this)
        have e2 : UInt8.ofNat r ≠ 47 := fun e => h2 (by have := congrArg UInt8.toNat e; rw [ofNat_toNat (by omega)] at this; exact this)
        rw [if_neg e1, if_neg e2, if_neg h1, if_neg h2, encAll_cons, encB_low hr]
        rfl
  · rw [pesc_free _ (encB_high (by omega))]
    unfold pescR
    rw [if_neg (by omega), if_neg (by omega), encAll_cons]
    exact (List.append_nil _).symm
theorem pesc_encAll : ∀ rs : List Nat, pesc (encAll rs) = encAll (rs.flatMap pescR)
  | [] => rfl
  | r :: rs => by rw [encAll_cons, pesc_app, pesc_encB, pesc_encAll rs, List.flatMap_cons, encAll_app]
theorem pescR_ok {rs : List Nat} (h : RunesOk rs) : RunesOk (rs.flatMap pescR) := fun r hr => by
  obtain ⟨x, hx, hr⟩ := List.mem_flatMap.1 hr
  unfold pescR at hr
  split at hr
  · simp only [List.mem_cons, List.not_mem_nil, or_false] at hr
    rcases hr with h | h <;> omega
  · split at hr
    · simp only [List.mem_cons, List.not_mem_nil, or_false] at hr
      rcases hr with h | h <;> omega
    · rw [List.mem_singleton.1 hr]; exact h x hx
theorem ptext_runes : ∀ p : List Bs, (p.all fun x => (valid (st x)).2) = true → ∃ rs, RunesOk rs ∧ encAll rs = ptext p
  | [], _ => ⟨[], fun r hr => (by cases hr), rfl⟩
  | x :: p, h => by
    rw [List.all_cons, Bool.and_eq_true] at h
    obtain ⟨r1, h1, e1⟩ := valid_runes h.1
    obtain ⟨r2, h2, e2⟩ := ptext_runes p h.2
    refine ⟨47 :: (r1.flatMap pescR ++ r2), fun r hr => ?_, ?_⟩
    · rcases List.mem_cons.1 hr with h | h
      · omega
      · rcases List.mem_append.1 h with h | h
        · exact pescR_ok h1 r h
        · exact h2 r h
    · rw [encAll_cons, encAll_app, ← pesc_encAll, e1, e2, encB_low (by omega)]
      rfl
theorem valid_ptext {p : List Bs} (h : pgoodB p = true) : (valid (st (ptext p))).2 = true := by
  unfold pgoodB at h
  rw [Bool.and_eq_true] at h
  obtain ⟨rs, h1, h2⟩ := ptext_runes p h.2
  exact runes_valid h1 h2
theorem pgood_len {p : List Bs} (h : pgoodB p = true) : p.length ≤ 64 := by
  unfold pgoodB at h
  rw [Bool.and_eq_true] at h
  exact of_decide_eq_true h.1
theorem pparse_ptext {p : List Bs} (h : pgoodB p = true) : pparseM (ptext p) = (p, 0) := by
  have hv := valid_ptext h
  have hl := pgood_len h
  have hc := count_ptext p
  have ht := tildeOk_ptext p
  cases p with
  | nil =>
    have h0 : pparseM (ptext []) = ([], 0) := by kernel_rfl
    exact h0
  | cons x p =>
    have hd : ptext (x :: p) = 47 :: (pesc x ++ ptext p) := by unfold ptext; rw [List.flatMap_cons]; rfl
    have hne : ptext (x :: p) ≠ [] := by rw [hd]; simp
    unfold pparseM
    rw [if_neg (by
      rintro (h1 | ⟨_, h2⟩)
      · rw [hv] at h1; cases h1
      · rw [hd] at h2; exact h2 rfl), if_neg (by rw [ht]; simp), if_neg (by rw [hc]; omega), if_neg hne, cut_unesc]
theorem unesc_skip {b : UInt8} (x : Bs) (h : b ≠ 126) : unesc (b :: x) = b :: unesc x := by unfold unesc; rw [un2_skip h, un2_skip h]
theorem unesc_48 (x : Bs) : unesc (126 :: 48 :: x) = 126 :: unesc x := by unfold unesc; rw [un2_miss (by decide) (by decide), un2_hit]
theorem unesc_49 (x : Bs) : unesc (126 :: 49 :: x) = 47 :: unesc x := by unfold unesc; rw [un2_hit, un2_skip (by decide)]
theorem cutAt_cons (c : UInt8) (b : UInt8) (r : Bs) (h : b ≠ c) : ∃ x l, cutAt c r = x :: l ∧ cutAt c (b :: r) = (b :: x) :: l := by
  cases hc : cutAt c r with
  | nil => exact absurd hc (cutAt_ne c r)
  | cons x l => exact ⟨x, l, rfl, by rw [cutAt, if_neg h, hc]⟩
theorem cutAt_length (c : UInt8) : ∀ r : Bs, (cutAt c r).length = r.count c + 1
  | [] => rfl
  | b :: r => by
    by_cases hb : b = c
    · rw [cutAt, if_pos hb, List.length_cons, cutAt_length c r, hb, List.count_cons_self]
    · obtain ⟨y, l, h1, h2⟩ := cutAt_cons c b r hb
      have ih := cutAt_length c r
      rw [h1] at ih
      rw [h2, List.count_cons_of_ne (fun e => hb (by simpa using e))]
      simpa using ih
end Go.Proofs.YtmadgdafgkleiaaGreatDoor

