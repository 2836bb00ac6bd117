/-
  MATHEMATICS: paths as texts and back.
-/
import Derived.Test.YtabfojdieegklaaGreatDoorPtp
import Derived.Test.YtabfojdieegklaaGreatDoorUnqD
namespace Go.Proofs.YtabfojdieegklaaGreatDoor
open Go.RowKit
theorem valid_runes {l : Bs} (h : (valid (st l)).2 = true) : ∃ rs, RunesOk rs ∧ encAll rs = l := by
  obtain ⟨rs, h1, h2⟩ := scan_at (st l) (st (quoteM (st l)).1) 0 h ⟨[], by rw [st_list, List.append_nil]; rfl⟩
  refine ⟨rs, ?_, by rw [h1, st_list]⟩
  have ho : RunesOk (scanM (st (quoteM (st l)).1) 0).2.2 := by
    unfold scanM
    split
    · exact (scanGo_ok _ _ _ [] (fun x hx => by cases hx)).1
    · exact fun x hx => by cases hx
  rw [h2] at ho
  exact ho
theorem runes_valid {l : Bs} {rs : List Nat} (h : RunesOk rs) (e : encAll rs = l) : (valid (st l)).2 = true := by rw [← e]; exact valid_enc rs h
theorem encB_low {r : Nat} (h : r < 128) : encB r = [UInt8.ofNat r] := by
  unfold encB
  rw [Lib.encodeRuneZ_one (by omega) (by omega)]
  simp
theorem encB_high {r : Nat} (h : 128 ≤ r) : ∀ b ∈ encB r, 128 ≤ b.toNat := by
  intro b hb
  unfold encB at hb
  obtain ⟨x, hx, rfl⟩ := List.mem_map.1 hb
  have hx2 : 128 ≤ x ∧ x < 256 := by
    unfold Lib.encodeRuneZ at hx
    split at hx
    · omega
    · split at hx
      · simp only [List.mem_cons, List.not_mem_nil, or_false] at hx
        rcases hx with h | h <;> omega
      · split at hx
        · simp only [List.mem_cons, List.not_mem_nil, or_false] at hx
          rcases hx with h | h | h <;> omega
        · split at hx
          · simp only [List.mem_cons, List.not_mem_nil, or_false] at hx
            rcases hx with h | h | h | h <;> omega
          · simp only [List.mem_cons, List.not_mem_nil, or_false] at hx
            rcases hx with h | h | h <;> omega
  rw [ofNat_toNat (by omega)]
  omega
def pescR (r : Nat) : List Nat := if r = 126 then [126, 48] else if r = 47 then [126, 49] else [r]
theorem encAll_app (a b : List Nat) : encAll (a ++ b) = encAll a ++ encAll b := by unfold encAll; rw [List.flatMap_append]
theorem encAll_cons (r : Nat) (b : List Nat) : encAll (r :: b) = encB r ++ encAll b := rfl
theorem pesc_free : ∀ x : Bs, (∀ b ∈ x, 128 ≤ b.toNat) → pesc x = x
  | [], _ => rfl
  | b :: x, h => by
    have hb := h b (List.mem_cons_self ..)
    have h1 : b ≠ 126 := fun e => by rw [e] at hb; exact absurd hb (by decide)
    have h2 : b ≠ 47 := fun e => by rw [e] at hb; exact absurd hb (by decide)
    rw [pesc_cons, if_neg h1, if_neg h2, pesc_free x (fun c hc => h c (List.mem_cons_of_mem _ hc))]
    rfl
theorem pesc_encB (r : Nat) : pesc (encB r) = encAll (pescR r) := by
  by_cases hr : r < 128
  · rw [encB_low hr, pesc_one]
    unfold pescR
    by_cases h1 : r = 126
    · subst h1; kernel_rfl
    · by_cases h2 : r = 47
      · subst h2; kernel_rfl
      · have e1 : UInt8.ofNat r ≠ 126 := fun e => h1 (by have := congrArg UInt8.toNat e; rw [ofNat_toNat (by omega)] at this; exact this)
        have e2 : UInt8.ofNat r ≠ 47 := fun e => h2 (by have := congrArg UInt8.toNat e; rw [ofNat_toNat (by omega)] at this; exact this)
        rw [if_neg e1, if_neg e2, if_neg h1, if_neg h2, encAll_cons, encB_low hr]
        rfl
  · rw [pesc_free _ (encB_high (by omega))]
    unfold pescR
    rw [if_neg (by omega), if_neg (by omega), encAll_cons]
    exact (List.append_nil _).symm
theorem pesc_encAll : ∀ rs : List Nat, pesc (encAll rs) = encAll (rs.flatMap pescR)
  | [] => rfl
  | r :: rs => by rw [encAll_cons, pesc_app, pesc_encB, pesc_encAll rs, List.flatMap_cons, encAll_app]
theorem pescR_ok {rs : List Nat} (h : RunesOk rs) : RunesOk (rs.flatMap pescR) := fun r hr => by
  obtain ⟨x, hx, hr⟩ := List.mem_flatMap.1 hr
  unfold pescR at hr
  split at hr
  · simp only [List.mem_cons, List.not_mem_nil, or_false] at hr
    rcases hr with h | h <;> omega
  · split at hr
    · simp only [List.mem_cons, List.not_mem_nil, or_false] at hr
      rcases hr with h | h <;> omega
    · rw [List.mem_singleton.1 hr]; exact h x hx
theorem ptext_runes : ∀ p : List Bs, (p.all fun x => (valid (st x)).2) = true → ∃ rs, RunesOk rs ∧ encAll rs = ptext p
  | [], _ => ⟨[], fun r hr => (by cases hr), rfl⟩
  | x :: p, h => by
    rw [List.all_cons, Bool.and_eq_true] at h
    obtain ⟨r1, h1, e1⟩ := valid_runes h.1
    obtain ⟨r2, h2, e2⟩ := ptext_runes p h.2
    refine ⟨47 :: (r1.flatMap pescR ++ r2), fun r hr => ?_, ?_⟩
    · rcases List.mem_cons.1 hr with h | h
      · omega
      · rcases List.mem_append.1 h with h | h
        · exact pescR_ok h1 r h
        · exact h2 r h
    · rw [encAll_cons, encAll_app, ← pesc_encAll, e1, e2, encB_low (by omega)]
      rfl
theorem valid_ptext {p : List Bs} (h : pgoodB p = true) : (valid (st (ptext p))).2 = true := by
  unfold pgoodB at h
  rw [Bool.and_eq_true] at h
  obtain ⟨rs, h1, h2⟩ := ptext_runes p h.2
  exact runes_valid h1 h2
theorem pgood_len {p : List Bs} (h : pgoodB p = true) : p.length ≤ 64 := by
  unfold pgoodB at h
  rw [Bool.and_eq_true] at h
  exact of_decide_eq_true h.1
theorem pparse_ptext {p : List Bs} (h : pgoodB p = true) : pparseM (ptext p) = (p, 0) := by
  have hv := valid_ptext h
  have hl := pgood_len h
  have hc := count_ptext p
  have ht := tildeOk_ptext p
  cases p with
  | nil =>
    have h0 : pparseM (ptext []) = ([], 0) := by kernel_rfl
    exact h0
  | cons x p =>
    have hd : ptext (x :: p) = 47 :: (pesc x ++ ptext p) := by unfold ptext; rw [List.flatMap_cons]; rfl
    have hne : ptext (x :: p) ≠ [] := by rw [hd]; simp
    unfold pparseM
    rw [if_neg (by
      rintro (h1 | ⟨_, h2⟩)
      · rw [hv] at h1; cases h1
      · rw [hd] at h2; exact h2 rfl), if_neg (by rw [ht]; simp), if_neg (by rw [hc]; omega), if_neg hne, cut_unesc]
theorem flatMap_same {α β : Type} {f g : α → List β} : ∀ l : List α, (∀ x ∈ l, f x = g x) → l.flatMap f = l.flatMap g
  | [], _ => rfl
  | a :: l, h => by rw [List.flatMap_cons, List.flatMap_cons, h a (List.mem_cons_self ..), flatMap_same l (fun x hx => h x (List.mem_cons_of_mem _ hx))]
/-- what is unescaped is escaped again -/
theorem unesc_skip {b : UInt8} (x : Bs) (h : b ≠ 126) : unesc (b :: x) = b :: unesc x := by unfold unesc; rw [un2_skip h, un2_skip h]
theorem unesc_48 (x : Bs) : unesc (126 :: 48 :: x) = 126 :: unesc x := by unfold unesc; rw [un2_miss (by decide) (by decide), un2_hit]
theorem unesc_49 (x : Bs) : unesc (126 :: 49 :: x) = 47 :: unesc x := by unfold unesc; rw [un2_hit, un2_skip (by decide)]
theorem pesc_unesc : ∀ (n : Nat) (x : Bs), x.length ≤ n → tildeOk x = true → 47 ∉ x → pesc (unesc x) = x
  | _, [], _, _, _ => rfl
  | 0, b :: x, h, _, _ => by simp at h
  | n + 1, b :: x, h, ht, hs => by
    have hl : x.length ≤ n := by simpa using h
    have hb : b ≠ 47 := fun e => hs (by simp [e])
    have hx : 47 ∉ x := fun e => hs (by simp [e])
    by_cases h1 : b = 126
    · subst h1
      cases x with
      | nil => simp [tildeOk] at ht
      | cons c y =>
        have hy : 47 ∉ y := fun e => hx (by simp [e])
        have hyl : y.length ≤ n := by simp at hl; omega
        by_cases h2 : c = 48
        · subst h2
          rw [tildeOk_esc (.inl rfl)] at ht
          rw [unesc_48, pesc_cons, if_pos rfl, pesc_unesc n y hyl ht hy]; rfl
        · by_cases h3 : c = 49
          · subst h3
            rw [tildeOk_esc (.inr rfl)] at ht
            rw [unesc_49, pesc_cons, if_neg (by decide), if_pos rfl, pesc_unesc n y hyl ht hy]; rfl
          · rw [tildeOk] at ht; simp [h2, h3] at ht
    · rw [tildeOk_skip h1] at ht
      rw [unesc_skip x h1, pesc_cons, if_neg h1, if_neg hb, pesc_unesc n x hl ht hx]; rfl
theorem cutAt_cons (c : UInt8) (b : UInt8) (r : Bs) (h : b ≠ c) : ∃ x l, cutAt c r = x :: l ∧ cutAt c (b :: r) = (b :: x) :: l := by
  cases hc : cutAt c r with
  | nil => exact absurd hc (cutAt_ne c r)
  | cons x l => exact ⟨x, l, rfl, by rw [cutAt, if_neg h, hc]⟩
theorem cutAt_free (c : UInt8) : ∀ r : Bs, ∀ x ∈ cutAt c r, c ∉ x
  | [], x, h => by rw [cutAt, List.mem_singleton] at h; subst h; simp
  | b :: r, x, h => by
    by_cases hb : b = c
    · rw [cutAt, if_pos hb] at h
      rcases List.mem_cons.1 h with rfl | h
      · simp
      · exact cutAt_free c r x h
    · obtain ⟨y, l, h1, h2⟩ := cutAt_cons c b r hb
      rw [h2] at h
      have ih := cutAt_free c r
      rw [h1] at ih
      rcases List.mem_cons.1 h with rfl | h
      · intro e
        rcases List.mem_cons.1 e with e | e
        · exact hb e.symm
        · exact ih y (List.mem_cons_self ..) e
      · exact ih x (List.mem_cons_of_mem _ h)
theorem cutAt_join (c : UInt8) : ∀ r : Bs, (cutAt c r).flatMap (fun x => c :: x) = c :: r
  | [] => rfl
  | b :: r => by
    by_cases hb : b = c
    · rw [cutAt, if_pos hb, List.flatMap_cons, cutAt_join c r, hb]; rfl
    · obtain ⟨y, l, h1, h2⟩ := cutAt_cons c b r hb
      have ih := cutAt_join c r
      rw [h1, List.flatMap_cons] at ih
      rw [h2, List.flatMap_cons]
      have ih2 : y ++ l.flatMap (fun x => c :: x) = r := by simpa using ih
      rw [← ih2]; simp
theorem cutAt_length (c : UInt8) : ∀ r : Bs, (cutAt c r).length = r.count c + 1
  | [] => rfl
  | b :: r => by
    by_cases hb : b = c
    · rw [cutAt, if_pos hb, List.length_cons, cutAt_length c r, hb, List.count_cons_self]
    · obtain ⟨y, l, h1, h2⟩ := cutAt_cons c b r hb
      have ih := cutAt_length c r
      rw [h1] at ih
      rw [h2, List.count_cons_of_ne (fun e => hb (by simpa using e))]
      simpa using ih
theorem tilde_cut : ∀ (n : Nat) (r : Bs), r.length ≤ n → tildeOk r = true → ∀ x ∈ cutAt 47 r, tildeOk x = true
  | _, [], _, _, x, h => by rw [cutAt, List.mem_singleton] at h; subst h; rfl
  | 0, b :: r, h, _, _, _ => by simp at h
  | n + 1, b :: r, h, ht, x, hx => by
    have hl : r.length ≤ n := by simpa using h
    by_cases hb : b = 47
    · rw [cutAt, if_pos hb] at hx
      rw [hb, tildeOk_skip (by decide)] at ht
      rcases List.mem_cons.1 hx with rfl | hx
      · rfl
      · exact tilde_cut n r hl ht x hx
    · by_cases h1 : b = 126
      · subst h1
        cases r with
        | nil => simp [tildeOk] at ht
        | cons c y =>
          have hyl : y.length ≤ n := by simp at hl; omega
          have hc : c = 48 ∨ c = 49 := by
            by_cases h2 : c = 48
            · exact .inl h2
            · by_cases h3 : c = 49
              · exact .inr h3
              · rw [tildeOk] at ht; simp [h2, h3] at ht
          have hc2 : c ≠ 47 := by rcases hc with rfl | rfl <;> decide
          rw [tildeOk_esc hc] at ht
          obtain ⟨y1, l1, e1, e2⟩ := cutAt_cons 47 c y hc2
          obtain ⟨y2, l2, e3, e4⟩ := cutAt_cons 47 126 (c :: y) (by decide)
          rw [e2] at e3
          obtain ⟨rfl, rfl⟩ := List.cons.inj e3
          rw [e4] at hx
          have ih := tilde_cut n y hyl ht
          rw [e1] at ih
          rcases List.mem_cons.1 hx with rfl | hx
          · rw [tildeOk_esc hc]; exact ih y1 (List.mem_cons_self ..)
          · exact ih x (List.mem_cons_of_mem _ hx)
      · rw [tildeOk_skip h1] at ht
        obtain ⟨y1, l1, e1, e2⟩ := cutAt_cons 47 b r hb
        rw [e2] at hx
        have ih := tilde_cut n r hl ht
        rw [e1] at ih
        rcases List.mem_cons.1 hx with rfl | hx
        · rw [tildeOk_skip h1]; exact ih y1 (List.mem_cons_self ..)
        · exact ih x (List.mem_cons_of_mem _ hx)
/-- a high run at the head of an escaped text stands there bare -/
theorem pesc_strip : ∀ (u v y T : Bs), (∀ b ∈ u, 128 ≤ b.toNat) → (T = [] ∨ T.head? = some 47) → pesc y ++ T = u ++ v → ∃ y2, y = u ++ y2 ∧ pesc y2 ++ T = v
  | [], v, y, T, _, _, h => ⟨y, rfl, h⟩
  | b :: u, v, y, T, hu, hT, h => by
    have hb := hu b (List.mem_cons_self ..)
    cases y with
    | nil =>
      rw [pesc_nil, List.nil_append] at h
      rcases hT with e | e
      · rw [e] at h; cases h
      · rw [h] at e
        have : b = 47 := by simpa using e
        subst this
        exact absurd hb (by decide)
    | cons c y =>
      rw [pesc_cons] at h
      by_cases h1 : c = 126
      · rw [if_pos h1] at h
        have : (126 : UInt8) = b := by simpa using (List.cons.inj h).1
        subst this; exact absurd hb (by decide)
      · rw [if_neg h1] at h
        by_cases h2 : c = 47
        · rw [if_pos h2] at h
          have : (126 : UInt8) = b := by simpa using (List.cons.inj h).1
          subst this; exact absurd hb (by decide)
        · rw [if_neg h2] at h
          obtain ⟨e1, e2⟩ := List.cons.inj (show c :: (pesc y ++ T) = b :: (u ++ v) from by simpa using h)
          subst e1
          obtain ⟨y2, e3, e4⟩ := pesc_strip u v y T (fun x hx => hu x (List.mem_cons_of_mem _ hx)) hT e2
          exact ⟨y2, by rw [e3]; rfl, e4⟩
theorem ptext_head (p : List Bs) : ptext p = [] ∨ (ptext p).head? = some 47 := by
  cases p with
  | nil => exact .inl rfl
  | cons x p => exact .inr rfl
theorem encB_ne (r : Nat) : encB r ≠ [] := by
  by_cases h : r < 128
  · rw [encB_low h]; simp
  · intro e
    unfold encB at e
    have h3 := List.map_eq_nil_iff.1 e
    unfold Lib.encodeRuneZ at h3
    split at h3
    · cases h3
    · split at h3
      · cases h3
      · split at h3
        · cases h3
        · split at h3
          · cases h3
          · cases h3
/-- a path whose text is well encoded has well encoded steps -/
theorem ptext_back : ∀ (rs : List Nat) (y : Bs) (p : List Bs), RunesOk rs → pesc y ++ ptext p = encAll rs → (∃ q, RunesOk q ∧ encAll q = y) ∧ ∀ x ∈ p, ∃ q, RunesOk q ∧ encAll q = x := by
  intro rs
  induction hn : rs.length using Nat.strongRecOn generalizing rs with
  | _ n ih =>
    intro y p hr h
    have nilq : ∃ q, RunesOk q ∧ encAll q = [] := ⟨[], (fun r hr => by cases hr), rfl⟩
    cases rs with
    | nil =>
      have h0 : pesc y ++ ptext p = [] := h
      obtain ⟨h1, h2⟩ := List.append_eq_nil_iff.1 h0
      cases y with
      | cons c y => rw [pesc_cons] at h1; split at h1 <;> (try split at h1) <;> simp at h1
      | nil =>
        cases p with
        | cons x p => unfold ptext at h2; rw [List.flatMap_cons] at h2; simp at h2
        | nil => exact ⟨nilq, fun x hx => by cases hx⟩
    | cons r rs =>
      have hr1 : r ≤ 1114111 ∧ (r < 55296 ∨ 57343 < r) := hr r (List.mem_cons_self ..)
      have hr2 : RunesOk rs := fun x hx => hr x (List.mem_cons_of_mem _ hx)
      have hlen : rs.length < n := by rw [← hn]; simp
      rw [encAll_cons] at h
      by_cases hlo : r < 128
      · rw [encB_low hlo] at h
        have hbr : (UInt8.ofNat r).toNat = r := ofNat_toNat (by omega)
        cases y with
        | nil =>
          cases p with
          | nil => cases h
          | cons x p =>
            have h1 : 47 :: (pesc x ++ ptext p) = UInt8.ofNat r :: encAll rs := by
              rw [pesc_nil, List.nil_append] at h
              unfold ptext at h ⊢
              rw [List.flatMap_cons] at h
              simpa using h
            obtain ⟨_, e2⟩ := List.cons.inj h1
            obtain ⟨h3, h4⟩ := ih rs.length hlen rs rfl x p hr2 e2
            refine ⟨nilq, fun z hz => ?_⟩
            rcases List.mem_cons.1 hz with rfl | hz
            · exact h3
            · exact h4 z hz
        | cons c y =>
          have two : ∀ (d : UInt8) (k : Nat), k < 128 → d = UInt8.ofNat k → 126 :: d :: (pesc y ++ ptext p) = UInt8.ofNat r :: encAll rs → (∃ q, RunesOk q ∧ encAll q = y) ∧ ∀ x ∈ p, ∃ q, RunesOk q ∧ encAll q = x := by
            intro d k hk hd h1
            obtain ⟨_, e2⟩ := List.cons.inj h1
            cases rs with
            | nil => cases e2
            | cons r2 rs =>
              rw [encAll_cons] at e2
              by_cases hlo2 : r2 < 128
              · rw [encB_low hlo2] at e2
                obtain ⟨_, e3⟩ := List.cons.inj (show d :: (pesc y ++ ptext p) = UInt8.ofNat r2 :: encAll rs from e2)
                exact ih rs.length (by rw [← hn]; simp; omega) rs rfl y p (fun x hx => hr2 x (List.mem_cons_of_mem _ hx)) e3
              · have hh := encB_high (r := r2) (by omega)
                cases hb : encB r2 with
                | nil => exact absurd hb (encB_ne r2)
                | cons b u =>
                  rw [hb] at e2 hh
                  obtain ⟨e3, _⟩ := List.cons.inj e2
                  have := hh b (List.mem_cons_self ..)
                  rw [← e3, hd, ofNat_toNat (by omega)] at this
                  omega
          rw [pesc_cons] at h
          by_cases h1 : c = 126
          · subst h1
            rw [if_pos rfl] at h
            obtain ⟨⟨q, hq1, hq2⟩, h4⟩ := two 48 48 (by omega) rfl h
            exact ⟨⟨126 :: q, fun z hz => by
              rcases List.mem_cons.1 hz with rfl | hz
              · omega
              · exact hq1 z hz, by rw [encAll_cons, hq2, encB_low (by omega)]; rfl⟩, h4⟩
          · rw [if_neg h1] at h
            by_cases h2 : c = 47
            · subst h2
              rw [if_pos rfl] at h
              obtain ⟨⟨q, hq1, hq2⟩, h4⟩ := two 49 49 (by omega) rfl h
              exact ⟨⟨47 :: q, fun z hz => by
                rcases List.mem_cons.1 hz with rfl | hz
                · omega
                · exact hq1 z hz, by rw [encAll_cons, hq2, encB_low (by omega)]; rfl⟩, h4⟩
            · rw [if_neg h2] at h
              obtain ⟨e1, e2⟩ := List.cons.inj (show c :: (pesc y ++ ptext p) = UInt8.ofNat r :: encAll rs from h)
              obtain ⟨⟨q, hq1, hq2⟩, h4⟩ := ih rs.length hlen rs rfl y p hr2 e2
              exact ⟨⟨r :: q, fun z hz => by
                rcases List.mem_cons.1 hz with rfl | hz
                · exact hr1
                · exact hq1 z hz, by rw [encAll_cons, hq2, encB_low hlo, ← e1]; rfl⟩, h4⟩
      · obtain ⟨y2, e1, e2⟩ := pesc_strip (encB r) (encAll rs) y (ptext p) (encB_high (by omega)) (ptext_head p) h
        obtain ⟨⟨q, hq1, hq2⟩, h4⟩ := ih rs.length hlen rs rfl y2 p hr2 e2
        exact ⟨⟨r :: q, fun z hz => by
          rcases List.mem_cons.1 hz with rfl | hz
          · exact hr1
          · exact hq1 z hz, by rw [encAll_cons, hq2, e1]⟩, h4⟩
/-- a text that is a path is that path's text -/
theorem ptext_pparse {s : Bs} {p : List Bs} (h : pparseM s = (p, 0)) : pgoodB p = true ∧ ptext p = s := by
  unfold pparseM at h
  split at h
  · cases (Prod.mk.inj h).2
  · rename_i h1
    split at h
    · cases (Prod.mk.inj h).2
    · rename_i h2
      split at h
      · cases (Prod.mk.inj h).2
      · rename_i h3
        split at h
        · rename_i h4
          have := (Prod.mk.inj h).1
          rw [← this, h4]
          exact ⟨by kernel_rfl, rfl⟩
        · rename_i h4
          have hp := (Prod.mk.inj h).1
          have hv : (valid (st s)).2 = true := by
            cases hvv : (valid (st s)).2 with
            | true => rfl
            | false => exact absurd (.inl hvv) h1
          have ht : tildeOk s = true := by simpa using h2
          cases s with
          | nil => exact absurd rfl h4
          | cons b r =>
            have hb : b = 47 := by
              by_cases e : b = 47
              · exact e
              · exact absurd (.inr ⟨by simp, by simpa using e⟩) h1
            subst hb
            rw [tildeOk_skip (by decide)] at ht
            simp only [List.drop_succ_cons, List.drop_zero] at hp
            have hcl := cutAt_length 47 r
            rw [List.count_cons_self] at h3
            have hti := tilde_cut r.length r (Nat.le_refl _) ht
            have hfr := cutAt_free 47 r
            have hjo := cutAt_join 47 r
            have hpt : ptext p = 47 :: r := by
              rw [← hjo, ← hp]
              unfold ptext
              rw [List.flatMap_map]
              refine flatMap_same _ (fun x hx => ?_)
              rw [pesc_unesc x.length x (Nat.le_refl _) (hti x hx) (hfr x hx)]
            refine ⟨?_, hpt⟩
            obtain ⟨rs, hr1, hr2⟩ := valid_runes hv
            obtain ⟨_, h6⟩ := ptext_back rs [] p hr1 (by rw [pesc_nil, List.nil_append, hpt, hr2])
            unfold pgoodB
            rw [Bool.and_eq_true]
            refine ⟨decide_eq_true (by rw [← hp, List.length_map]; omega), List.all_eq_true.2 (fun x hx => ?_)⟩
            obtain ⟨q, q1, q2⟩ := h6 x hx
            exact runes_valid q1 q2
theorem pparse_fail {s : Bs} {p : List Bs} {e : Int} (h : pparseM s = (p, e)) (he : e ≠ 0) : p = [] ∧ s ≠ [] := by
  have h0 : s ≠ [] := by
    rintro rfl
    have : pparseM [] = ([], 0) := by kernel_rfl
    rw [this] at h
    exact he (Prod.mk.inj h).2.symm
  refine ⟨?_, h0⟩
  unfold pparseM at h
  split at h
  · exact (Prod.mk.inj h).1.symm
  · split at h
    · exact (Prod.mk.inj h).1.symm
    · split at h
      · exact (Prod.mk.inj h).1.symm
      · exact absurd (Prod.mk.inj h).2.symm he
end Go.Proofs.YtabfojdieegklaaGreatDoor
