/-
  MATHEMATICS: rules as texts and back.
  MATHEMATICS: a text that is read comes back from its rules.
-/
import Derived.Test.YtmomildkopainaaDoorRuQ
import Derived.Test.YtmomildkopainaaDoorUnqD

namespace Go.Proofs.YtmomildkopainaaDoor
open Go.RowKit

theorem valid_runes {l : Bs} (h : (valid (st l)).2 = true) : ∃ rs, RunesOk rs ∧ encAll rs = l := by
  obtain ⟨rs, h1, h2⟩ := scan_at (st l) (st (quoteM (st l)).1) 0 h ⟨[], by rw [st_list, List.append_nil]; rfl⟩
  refine ⟨rs, ?_, by rw [h1, st_list]⟩
  have ho : RunesOk (scanM (st (quoteM (st l)).1) 0).2.2 := by
    unfold scanM
    split
    · exact (scanGo_ok _ _ _ [] (fun x hx => by cases hx)).1
    · exact fun x hx => by cases hx
  rw [h2] at ho
  exact ho
theorem runes_valid {l : Bs} {rs : List Nat} (h : RunesOk rs) (e : encAll rs = l) : (valid (st l)).2 = true := by rw [← e]; exact valid_enc rs h
theorem encB_low {r : Nat} (h : r < 128) : encB r = [UInt8.ofNat r] := by
  unfold encB
  rw [Lib.encodeRuneZ_one (by omega) (by omega)]
  simp
theorem encB_high {r : Nat} (h : 128 ≤ r) : ∀ b ∈ encB r, 128 ≤ b.toNat := by
  intro b hb
  unfold encB at hb
  obtain ⟨x, hx, rfl⟩ := List.mem_map.1 hb
  have hx2 : 128 ≤ x ∧ x < 256 := by
    unfold Lib.encodeRuneZ at hx
    split at hx
    · omega
    · split at hx
      · simp only [List.mem_cons, List.not_mem_nil, or_false] at hx
        rcases hx with h | h <;> omega
      · split at hx
        · simp only [List.mem_cons, List.not_mem_nil, or_false] at hx
          rcases hx with h | h | h <;> omega
        · split at hx
          · simp only [List.mem_cons, List.not_mem_nil, or_false] at hx
            rcases hx with h | h | h | h <;> omega
          · simp only [List.mem_cons, List.not_mem_nil, or_false] at hx
            rcases hx with h | h | h <;> omega
  rw [ofNat_toNat (by omega)]
  omega
def pescR (r : Nat) : List Nat := if r = 126 then [126, 48] else if r = 47 then [126, 49] else [r]
theorem encAll_app (a b : List Nat) : encAll (a ++ b) = encAll a ++ encAll b := by unfold encAll; rw [List.flatMap_append]
theorem encAll_cons (r : Nat) (b : List Nat) : encAll (r :: b) = encB r ++ encAll b := rfl
theorem pesc_free : ∀ x : Bs, (∀ b ∈ x, 128 ≤ b.toNat) → pesc x = x
  | [], _ => rfl
  | b :: x, h => by
    have hb := h b (List.mem_cons_self ..)
    have h1 : b ≠ 126 := fun e => by rw [e] at hb; exact absurd hb (by decide)
    have h2 : b ≠ 47 := fun e => by rw [e] at hb; exact absurd hb (by decide)
    rw [pesc_cons, if_neg h1, if_neg h2, pesc_free x (fun c hc => h c (List.mem_cons_of_mem _ hc))]
    rfl
theorem pesc_encB (r : Nat) : pesc (encB r) = encAll (pescR r) := by
  by_cases hr : r < 128
  · rw [encB_low hr, pesc_one]
    unfold pescR
    by_cases h1 : r = 126
    · subst h1; kernel_rfl
    · by_cases h2 : r = 47
      · subst h2; kernel_rfl
      · have e1 : UInt8.ofNat r ≠ 126 := fun e => h1 (by have := congrArg UInt8.toNat e; rw [ofNat_toNat (by omega)] at this; exact this)
        have e2 : UInt8.ofNat r ≠ 47 := fun e => h2 (by have := congrArg UInt8.toNat e; rw [ofNat_toNat (by omega)] at this; exact this)
        rw [if_neg e1, if_neg e2, if_neg h1, if_neg h2, encAll_cons, encB_low hr]
        rfl
  · rw [pesc_free _ (encB_high (by omega))]
    unfold pescR
    rw [if_neg (by omega), if_neg (by omega), encAll_cons]
    exact (List.append_nil _).symm
theorem pesc_encAll : ∀ rs : List Nat, pesc (encAll rs) = encAll (rs.flatMap pescR)
  | [] => rfl
  | r :: rs => by rw [encAll_cons, pesc_app, pesc_encB, pesc_encAll rs, List.flatMap_cons, encAll_app]
theorem pescR_ok {rs : List Nat} (h : RunesOk rs) : RunesOk (rs.flatMap pescR) := fun r hr => by
  obtain ⟨x, hx, hr⟩ := List.mem_flatMap.1 hr
  unfold pescR at hr
  split at hr
  · simp only [List.mem_cons, List.not_mem_nil, or_false] at hr
    rcases hr with h | h <;> omega
  · split at hr
    · simp only [List.mem_cons, List.not_mem_nil, or_false] at hr
      rcases hr with h | h <;> omega
    · rw [List.mem_singleton.1 hr]; exact h x hx
theorem ptext_runes : ∀ p : List Bs, (p.all fun x => (valid (st x)).2) = true → ∃ rs, RunesOk rs ∧ encAll rs = ptext p
  | [], _ => ⟨[], fun r hr => (by cases hr), rfl⟩
  | x :: p, h => by
    rw [List.all_cons, Bool.and_eq_true] at h
    obtain ⟨r1, h1, e1⟩ := valid_runes h.1
    obtain ⟨r2, h2, e2⟩ := ptext_runes p h.2
    refine ⟨47 :: (r1.flatMap pescR ++ r2), fun r hr => ?_, ?_⟩
    · rcases List.mem_cons.1 hr with h | h
      · omega
      · rcases List.mem_append.1 h with h | h
        · exact pescR_ok h1 r h
        · exact h2 r h
    · rw [encAll_cons, encAll_app, ← pesc_encAll, e1, e2, encB_low (by omega)]
      rfl
theorem valid_ptext {p : List Bs} (h : pgoodB p = true) : (valid (st (ptext p))).2 = true := by
  unfold pgoodB at h
  rw [Bool.and_eq_true] at h
  obtain ⟨rs, h1, h2⟩ := ptext_runes p h.2
  exact runes_valid h1 h2
theorem pgood_len {p : List Bs} (h : pgoodB p = true) : p.length ≤ 64 := by
  unfold pgoodB at h
  rw [Bool.and_eq_true] at h
  exact of_decide_eq_true h.1
theorem pparse_ptext {p : List Bs} (h : pgoodB p = true) : pparseM (ptext p) = (p, 0) := by
  have hv := valid_ptext h
  have hl := pgood_len h
  have hc := count_ptext p
  have ht := tildeOk_ptext p
  cases p with
  | nil =>
    have h0 : pparseM (ptext []) = ([], 0) := by kernel_rfl
    exact h0
  | cons x p =>
    have hd : ptext (x :: p) = 47 :: (pesc x ++ ptext p) := by unfold ptext; rw [List.flatMap_cons]; rfl
    have hne : ptext (x :: p) ≠ [] := by rw [hd]; simp
    unfold pparseM
    rw [if_neg (by
      rintro (h1 | ⟨_, h2⟩)
      · rw [hv] at h1; cases h1
      · rw [hd] at h2; exact h2 rfl), if_neg (by rw [ht]; simp), if_neg (by rw [hc]; omega), if_neg hne, cut_unesc]
theorem quoteL {k : Bs} (h : (valid (st k)).2 = true) : (quoteM (st k)).1 = 34 :: quoteB k ++ [34] := by rw [quoteM_yes h, st_list]
theorem trim_mid (q : Bs) : trimSL ([32] ++ (34 :: q ++ [34]) ++ [10]) = 34 :: q ++ [34] := by
  unfold trimSL
  rw [trimRs_snoc, if_pos (by rfl), ← List.append_assoc, trimRs_snoc, if_neg (by decide)]
  unfold trimLs
  show List.dropWhile isSL (32 :: 34 :: (q ++ [34])) = _
  rw [List.dropWhile_cons, if_pos (by rfl), List.dropWhile_cons, if_neg (by decide)]
  rfl
theorem lineM_eq {p : List Bs} {k : Bs} (hp : pgoodB p = true) : lineM p k = (quoteM (st (ptext p))).1 ++ ([32] ++ (quoteM (st k)).1 ++ [10]) := by
  unfold lineM ptxM
  rw [if_pos hp]
  simp only [List.append_assoc]
theorem ruleM_line {p : List Bs} {k : Bs} (hp : pgoodB p = true) (hk : (valid (st k)).2 = true) : ruleM (lineM p k) = some (p, k) := by
  have hv := valid_ptext hp
  have hs := lineM_eq (k := k) hp
  have hq1 := unquote_quote (st (ptext p)) hv
  have hq2 := unquote_quote (st k) hk
  rw [st_list] at hq1 hq2
  have he : endM (st (lineM p k)) 0 = ((quoteM (st (ptext p))).1.length, 0) := by
    obtain ⟨rs, _, h2⟩ := scan_at (st (ptext p)) (st (lineM p k)) 0 hv ⟨[32] ++ (quoteM (st k)).1 ++ [10], by rw [st_list, List.drop_zero, hs]⟩
    unfold endM
    rw [if_neg (by omega), show ((0 : Int)).toNat = 0 from rfl, h2]
    simp only [Nat.zero_add]
  have ht : (lineM p k).take (quoteM (st (ptext p))).1.length = (quoteM (st (ptext p))).1 := by rw [hs, List.take_left]
  have hd : trimSL ((lineM p k).drop (quoteM (st (ptext p))).1.length) = (quoteM (st k)).1 := by rw [hs, List.drop_left, quoteL hk]; exact trim_mid _
  unfold ruleM
  rw [he]
  simp only
  rw [ht, hd, hq1, hq2]
  simp only
  rw [pparse_ptext hp]
  simp
theorem qb_ten : ∀ c : UInt8, 10 ∉ qb c := fun c => by
  have h : ∀ n : Fin 256, (10 : UInt8) ∉ qb (UInt8.ofNat n.val) := by decide +kernel
  have := h ⟨c.toNat, c.toNat_lt⟩
  simpa using this
theorem quoteM_ten (s : ByteArray) : 10 ∉ (quoteM s).1 := by
  unfold quoteM
  split
  · intro h
    have h : (10 : UInt8) ∈ 34 :: quoteB s.data.toList ++ [34] := h
    rcases List.mem_append.1 h with h | h
    · rcases List.mem_cons.1 h with h | h
      · exact absurd h (by decide)
      · obtain ⟨c, _, hc⟩ := List.mem_flatMap.1 h
        exact qb_ten c hc
    · exact absurd (List.mem_singleton.1 h) (by decide)
  · simp
theorem lineEnd_at (A rest : Bs) (h : 10 ∉ A) : lineEnd (A ++ 10 :: rest) = A.length + 1 := by
  have hc := cutAt_app 10 A h rest
  unfold lineEnd
  rcases indexByte_cut 10 (A ++ 10 :: rest) with ⟨_, h2⟩ | ⟨i, hi, h1, h2⟩
  · rw [hc] at h2
    injection h2 with _ h3
    exact absurd h3 (cutAt_ne 10 rest)
  · rw [hc] at h2
    injection h2 with h3 _
    have hl := congrArg List.length h3
    rw [List.length_take] at hl
    rw [h1]
    omega
theorem linesB_cons (r : RU) (l : List RU) : linesB (r :: l) = lineM r.p.l r.k ++ linesB l := by unfold linesB; rw [List.flatMap_cons]
theorem rparse_lines : ∀ (l : List RU) (f : Nat) (acc : List (List Bs × Bs)), (l.all fun r => (valid (st r.k)).2 && pgoodB r.p.l) = true → acc.length + l.length ≤ 32 → (linesB l).length < f →
    rparseGo f (linesB l) acc = (acc ++ l.map RU.m, acc.length + l.length, 0)
  | [], f, acc, _, _, _ => by
    show rparseGo f [] acc = _
    rw [rparseGo_nil]
    simp
  | r :: l, f, acc, h, hlen, hf => by
    rw [List.all_cons, Bool.and_eq_true, Bool.and_eq_true] at h
    obtain ⟨⟨hk, hp⟩, hl⟩ := h
    rw [List.length_cons] at hlen
    obtain ⟨A, hA⟩ : ∃ A : Bs, lineM r.p.l r.k = A ++ [10] := ⟨_, rfl⟩
    have hA10 : 10 ∉ A := by
      have e : A = (quoteM (st (ptext r.p.l))).1 ++ [32] ++ (quoteM (st r.k)).1 := by
        have h1 := lineM_eq (k := r.k) hp
        rw [hA] at h1
        have h2 : A ++ [10] = ((quoteM (st (ptext r.p.l))).1 ++ [32] ++ (quoteM (st r.k)).1) ++ [10] := by rw [h1]; simp
        exact List.append_cancel_right h2
      rw [e]
      intro h
      rcases List.mem_append.1 h with h | h
      · rcases List.mem_append.1 h with h | h
        · exact quoteM_ten _ h
        · exact absurd (List.mem_singleton.1 h) (by decide)
      · exact quoteM_ten _ h
    have hs : linesB (r :: l) = A ++ 10 :: linesB l := by rw [linesB_cons, hA, List.append_assoc]; rfl
    have hle := lineEnd_at A (linesB l) hA10
    rw [hs] at hf
    rw [List.length_append, List.length_cons] at hf
    obtain ⟨g, rfl⟩ : ∃ g, f = g + 1 := ⟨f - 1, by omega⟩
    have hr := ruleM_line hp hk
    rw [rparseGo, hs, if_neg (by simp), if_neg (by omega), hle]
    have ht : (A ++ 10 :: linesB l).take (A.length + 1) = lineM r.p.l r.k := by
      rw [hA, show A ++ 10 :: linesB l = (A ++ [10]) ++ linesB l by simp, show A.length + 1 = (A ++ [10]).length by simp, List.take_left]
    have hd : (A ++ 10 :: linesB l).drop (A.length + 1) = linesB l := by
      rw [show A ++ 10 :: linesB l = (A ++ [10]) ++ linesB l by simp, show A.length + 1 = (A ++ [10]).length by simp, List.drop_left]
    rw [ht, hd, hr]
    simp only
    rw [rparse_lines l g (acc ++ [(r.p.l, r.k)]) hl (by rw [List.length_append, List.length_singleton]; omega) (by omega)]
    rw [List.length_append, List.length_singleton, List.length_cons, List.map_cons, List.append_assoc]
    simp only [Prod.mk.injEq, and_true, List.singleton_append]
    exact ⟨rfl, by omega⟩
/-- THE ROUND TRIP: rules that are right come back from their text -/
theorem rparse_print {l : List RU} (h : rgoodB l = true) : rparseM (linesB l) = (l.map RU.m, l.length, 0) := by
  unfold rgoodB at h
  rw [Bool.and_eq_true] at h
  have hl := of_decide_eq_true h.1
  have := rparse_lines l ((linesB l).length + 1) [] h.2 (by simpa using hl) (Nat.lt_succ_self _)
  unfold rparseM
  rw [this]
  simp
end Go.Proofs.YtmomildkopainaaDoor

namespace Go.Proofs.YtmomildkopainaaDoor
open Go.RowKit

theorem ruleM_some {s : Bs} {p : List Bs} {k : Bs} (h : ruleM s = some (p, k)) : pgoodB p = true ∧ (valid (st k)).2 = true ∧ lineM p k = s := by
  unfold ruleM at h
  split at h
  · cases h
  · split at h
    · cases h
    · split at h
      · cases h
      · rename_i h1 h2 h3
        split at h
        · rename_i h4
          have h5 := Option.some.inj h
          have hp := (Prod.mk.inj h5).1
          have hk := (Prod.mk.inj h5).2
          rw [hp, hk] at h4
          have h30 : (unquoteM (st (trimSL (s.drop (endM (st s) 0).1)))).2.2 = 0 := Classical.not_not.1 h3
          have hvk := (unquote_ok _ h30).2
          rw [hk] at hvk
          refine ⟨?_, hvk, h4⟩
          by_cases hg : pgoodB p = true
          · exact hg
          · have hv0 : (valid (st [])).2 = true := by kernel_rfl
            have hq : (quoteM (st ([] : Bs))).1 = [34, 34] := by kernel_rfl
            have hs : s = (quoteM (st ([] : Bs))).1 ++ ([32] ++ (quoteM (st k)).1 ++ [10]) := by
              rw [← h4]
              unfold lineM ptxM
              rw [if_neg hg]
              simp only [List.append_assoc]
            have he : endM (st s) 0 = ((quoteM (st ([] : Bs))).1.length, 0) := by
              obtain ⟨rs, _, h2⟩ := scan_at (st ([] : Bs)) (st s) 0 hv0 ⟨[32] ++ (quoteM (st k)).1 ++ [10], by rw [st_list, List.drop_zero]; exact hs⟩
              unfold endM
              rw [if_neg (by omega), show ((0 : Int)).toNat = 0 from rfl, h2]
              simp only [Nat.zero_add]
            have ht : s.take (quoteM (st ([] : Bs))).1.length = (quoteM (st ([] : Bs))).1 := by
              have := List.take_left (l₁ := (quoteM (st ([] : Bs))).1) (l₂ := [32] ++ (quoteM (st k)).1 ++ [10])
              rw [← hs] at this
              exact this
            rw [he] at hp
            simp only at hp
            rw [ht, unquote_quote _ hv0, st_list] at hp
            simp only at hp
            have hn : (pparseM []).1 = [] := by kernel_rfl
            rw [hn] at hp
            rw [← hp]
            have h0 : pgoodB [] = true := by kernel_rfl
            exact h0
        · cases h
theorem lineM_ne (p : List Bs) (k : Bs) : lineM p k ≠ [] := by unfold lineM; simp
theorem rparse_shape : ∀ (f : Nat) (s : Bs) (acc : List (List Bs × Bs)) (L : List (List Bs × Bs)) (n : Nat) (e : Int), rparseGo f s acc = (L, n, e) → acc.length ≤ 32 → s.length < f →
    (e ≠ 0 → L = [] ∧ n ≤ 32) ∧ (e = 0 → ∃ l : List (List Bs × Bs), L = acc ++ l ∧ n = L.length ∧ L.length ≤ 32 ∧ s = l.flatMap (fun r => lineM r.1 r.2) ∧ ∀ r ∈ l, pgoodB r.1 = true ∧ (valid (st r.2)).2 = true)
  | 0, s, acc, L, n, e, _, _, hf => absurd hf (Nat.not_lt_zero _)
  | f + 1, s, acc, L, n, e, h, ha, hf => by
    rw [rparseGo] at h
    split at h
    · rename_i hs
      have h1 := (Prod.mk.inj h).1
      have h2 := (Prod.mk.inj (Prod.mk.inj h).2).1
      have h3 := (Prod.mk.inj (Prod.mk.inj h).2).2
      refine ⟨fun he => absurd h3.symm he, fun _ => ⟨[], by rw [← h1, List.append_nil], by rw [← h1, ← h2], by rw [← h1]; exact ha, hs, fun r hr => (by cases hr)⟩⟩
    · split at h
      · have h1 := (Prod.mk.inj h).1
        have h2 := (Prod.mk.inj (Prod.mk.inj h).2).1
        have h3 := (Prod.mk.inj (Prod.mk.inj h).2).2
        exact ⟨fun _ => ⟨h1.symm, by omega⟩, fun he => by rw [he] at h3; exact absurd h3 (by decide)⟩
      · split at h
        · have h1 := (Prod.mk.inj h).1
          have h2 := (Prod.mk.inj (Prod.mk.inj h).2).1
          have h3 := (Prod.mk.inj (Prod.mk.inj h).2).2
          exact ⟨fun _ => ⟨h1.symm, by omega⟩, fun he => by rw [he] at h3; exact absurd h3 (by decide)⟩
        · rename_i hne h32 _ r hr
          obtain ⟨p, k⟩ := r
          obtain ⟨hg, hk, hl⟩ := ruleM_some hr
          have hpos : 0 < (s.take (lineEnd s)).length := List.length_pos_iff.2 (by rw [← hl]; exact lineM_ne p k)
          have hlt : (s.drop (lineEnd s)).length < f := by
            rw [List.length_take] at hpos
            rw [List.length_drop]
            omega
          have ih := rparse_shape f (s.drop (lineEnd s)) (acc ++ [(p, k)]) L n e h (by rw [List.length_append, List.length_singleton]; omega) hlt
          refine ⟨ih.1, fun he => ?_⟩
          obtain ⟨l, h1, h2, h3, h4, h5⟩ := ih.2 he
          refine ⟨(p, k) :: l, by rw [h1, List.append_assoc]; rfl, h2, h3, ?_, fun r hr => ?_⟩
          · rw [List.flatMap_cons, ← h4]
            show s = lineM p k ++ _
            rw [hl, List.take_append_drop]
          · rcases List.mem_cons.1 hr with h | h
            · rw [h]; exact ⟨hg, hk⟩
            · exact h5 r h
theorem linesB_map (l : List RU) : linesB l = (l.map RU.m).flatMap (fun r => lineM r.1 r.2) := by unfold linesB; rw [List.flatMap_map]; rfl
/-- a text that is read: its rules' text is the text -/
theorem print_rparse {s : Bs} {l : List RU} {n : Nat} (h : rparseM s = (l.map RU.m, n, 0)) : printM l = (s, 0) ∧ n = l.length ∧ l.length ≤ 32 := by
  obtain ⟨_, h2⟩ := rparse_shape (s.length + 1) s [] (l.map RU.m) n 0 h (Nat.zero_le _) (Nat.lt_succ_self _)
  obtain ⟨l', h3, h4, h5, h6, h7⟩ := h2 rfl
  rw [List.nil_append] at h3
  rw [List.length_map] at h4 h5
  have hg : rgoodB l = true := by
    unfold rgoodB
    rw [Bool.and_eq_true]
    refine ⟨decide_eq_true h5, List.all_eq_true.2 fun r hr => ?_⟩
    have := h7 r.m (by rw [← h3]; exact List.mem_map_of_mem hr)
    rw [Bool.and_eq_true]
    exact ⟨this.2, this.1⟩
  refine ⟨?_, h4, h5⟩
  unfold printM
  rw [if_pos hg, linesB_map, h3, ← h6]
theorem rparse_fail {s : Bs} {L : List (List Bs × Bs)} {n : Nat} {e : Int} (h : rparseM s = (L, n, e)) (he : e ≠ 0) : L = [] ∧ n ≤ 32 :=
  (rparse_shape (s.length + 1) s [] L n e h (Nat.zero_le _) (Nat.lt_succ_self _)).1 he
end Go.Proofs.YtmomildkopainaaDoor
