/-
  PLAIN MATHEMATICS: the tokens of a text that are no blanks, where the text stands within another one.
  PLAIN MATHEMATICS: a value that was read, read again where its tokens stand elsewhere; fewer levels; the runs within a run.
  PLAIN MATHEMATICS: what Parse answers of a text with blanks around it, in brackets, as a member; of a node's bytes alone.
-/
import Derived.Test.YtkafjblfjdpdaaaGreatDoorQuoteW
import Derived.Test.YtkafjblfjdpdaaaGreatDoorLexv
import Derived.Test.YtkafjblfjdpdaaaGreatDoorJwM
namespace Go.Proofs.YtkafjblfjdpdaaaGreatDoor
open Go.RowKit
inductive NT (s : ByteArray) : Nat → List Tok → Prop
  | nil {p : Nat} : runTo s isBlank p = s.size → NT s p []
  | cons {p k e : Nat} {l : List Tok} : runTo s isBlank p < s.size → oneM s (runTo s isBlank p) = (k, e, 0) → k ≠ 1 → NT s e l → NT s p ((k, runTo s isBlank p, e) :: l)
theorem NT.congr {s : ByteArray} {p q : Nat} {l : List Tok} (h : NT s p l) (he : runTo s isBlank p = runTo s isBlank q) : NT s q l := by
  cases h with
  | nil h1 => exact .nil (he ▸ h1)
  | @cons _ k e l h1 h2 h3 h4 => rw [he] at h1 h2 ⊢; exact .cons h1 h2 h3 h4
theorem blank_sign {c : Nat} (h : isBlank c = true) : signM c = 0 := by
  unfold isBlank at h
  simp only [Bool.or_eq_true, beq_iff_eq] at h
  rcases h with ((h | h) | h) | h <;> (subst h; rfl)
theorem one_blank {s : ByteArray} {p : Nat} (h : isBlank (byt s p) = true) : oneM s p = (1, runTo s isBlank p, 0) := by
  unfold oneM
  simp only
  rw [if_neg (by rw [blank_sign h]; simp), if_pos h]
theorem not_blank {s : ByteArray} {p k e : Nat} (h : oneM s p = (k, e, 0)) (hk : k ≠ 1) : isBlank (byt s p) = false := by
  cases hb : isBlank (byt s p) with
  | false => rfl
  | true => rw [one_blank hb] at h; exact absurd (Prod.mk.inj h).1.symm hk
theorem nbl_one {k a b : Nat} {l : List Tok} (h : k ≠ 1) : nbl ((k, a, b) :: l) = (k, a, b) :: nbl l := by
  unfold nbl
  rw [List.filter_cons_of_pos]
  simpa using h
theorem nbl_blank {a b : Nat} {l : List Tok} : nbl ((1, a, b) :: l) = nbl l := by
  unfold nbl
  rw [List.filter_cons_of_neg]
  simp
theorem toks_of_NT {s : ByteArray} {p : Nat} {l : List Tok} (h : NT s p l) : p ≤ s.size → ∀ f, s.size ≤ p + f → (toksL s f p).2.2 = 0 ∧ nbl (toksL s f p).1 = l := by
  have step : ∀ (p : Nat) (l : List Tok), p ≤ s.size → (∀ f, s.size ≤ runTo s isBlank p + f → (toksL s f (runTo s isBlank p)).2.2 = 0 ∧ nbl (toksL s f (runTo s isBlank p)).1 = l) → ∀ f, s.size ≤ p + f → (toksL s f p).2.2 = 0 ∧ nbl (toksL s f p).1 = l := fun p l hp hh f hf => by
    by_cases hb : p < s.size ∧ isBlank (byt s p) = true
    · obtain ⟨h1, h2⟩ := hb
      obtain ⟨f, rfl⟩ : ∃ i, f = i + 1 := ⟨f - 1, by omega⟩
      have h3 := runTo_step h1 h2
      have h4 := runTo_ge s isBlank (p + 1)
      have e : toksL s (f + 1) p = ((1, p, runTo s isBlank p) :: (toksL s f (runTo s isBlank p)).1, (toksL s f (runTo s isBlank p)).2) := by rw [toksL, if_pos h1, one_blank h2]; rfl
      rw [e]
      obtain ⟨i1, i2⟩ := hh f (by omega)
      exact ⟨i1, by simp only; rw [nbl_blank]; exact i2⟩
    · have e : runTo s isBlank p = p := by
        rcases Nat.lt_or_ge p s.size with h1 | h1
        · exact runTo_stop (by cases hq : isBlank (byt s p) with | false => rfl | true => exact absurd ⟨h1, hq⟩ hb)
        · exact runTo_end h1
      rw [e] at hh
      exact hh f hf
  induction h with
  | @nil p h1 =>
    intro hp
    refine step p [] hp fun f hf => ?_
    rw [h1]
    have e : toksL s f s.size = ([], s.size, 0) := by
      cases f with
      | zero => rfl
      | succ f => rw [toksL, if_neg (by omega)]
    rw [e]; exact ⟨rfl, rfl⟩
  | @cons p k e l h1 h2 h3 h4 ih =>
    intro hp
    refine step p _ hp fun f hf => ?_
    generalize runTo s isBlank p = q at *
    obtain ⟨f, rfl⟩ : ∃ i, f = i + 1 := ⟨f - 1, by omega⟩
    have hbd := oneM_bd s q h1
    rw [h2] at hbd
    simp only at hbd
    have h5 := (hbd.2.2.2 trivial).1
    have eA : toksL s (f + 1) q = ((k, q, e) :: (toksL s f e).1, (toksL s f e).2) := by rw [toksL, if_pos h1, h2]; rfl
    rw [eA]
    obtain ⟨i1, i2⟩ := ih hbd.2.1 f (by omega)
    exact ⟨i1, by simp only; rw [nbl_one h3, i2]⟩
theorem NT_tokensM {s : ByteArray} {l : List Tok} (h : NT s 0 l) (hs : s.size ≤ 65536) : (tokensM s).2.2 = 0 ∧ nbl (tokensM s).1 = l := by
  obtain ⟨h1, h2⟩ := toks_of_NT h (Nat.zero_le _) s.size (by omega)
  have e : toksM s = toksL s s.size 0 := by unfold toksM; rw [toksGo_L]; simp
  unfold tokensM
  rw [if_neg (by omega), e, if_neg (by omega)]
  exact ⟨rfl, h2⟩
theorem oneM_same2 {s t : ByteArray} {p q kd e : Nat} (hp : p < s.size) (h : oneM s p = (kd, e, 0)) (hk : kd ≠ 1) (hq' : q + (e - p) ≤ t.size) (he : ∀ j, j < e - p → byt t (q + j) = byt s (p + j))
    (ht : q + (e - p) = t.size ∨ (isNum (byt t (q + (e - p))) = false ∧ isLet (byt t (q + (e - p))) = false) ∨ (e < s.size ∧ byt t (q + (e - p)) = byt s e)) : oneM t q = (kd, q + (e - p), 0) := by
  have hbd := oneM_bd s p hp
  have hnb := not_blank h hk
  rw [h] at hbd
  simp only at hbd
  obtain ⟨hpe, hes, _, hb4⟩ := hbd
  have hlt := (hb4 trivial).1
  have h0 := he 0 (by omega)
  rw [Nat.add_zero, Nat.add_zero] at h0
  have htw : ∀ w : Nat → Bool, (w = isNum ∨ w = isLet) → runTo s w p = e → q + (e - p) = t.size ∨ w (byt t (q + (e - p))) = false := by
    intro w hw hr
    rcases ht with h1 | h1 | ⟨h1, h2⟩
    · exact .inl h1
    · right
      rcases hw with rfl | rfl
      · exact h1.1
      · exact h1.2
    · right
      rw [h2, ← hr]
      exact runTo_out s w p (by omega) (by omega)
  unfold oneM at h ⊢
  simp only at h ⊢
  rw [h0]
  by_cases c1 : signM (byt s p) ≠ 0
  · rw [if_pos c1] at h ⊢
    injection h with h1 h; injection h with h2 _
    rw [h1, ← h2]
    simp only [Prod.mk.injEq, and_true, true_and]
    omega
  · rw [if_neg c1] at h ⊢
    rw [if_neg (by rw [hnb]; simp)] at h ⊢
    by_cases c3 : byt s p = 34
    · rw [if_pos c3] at h ⊢
      injection h with h1 h; injection h with h2 h3
      have hsc : scanM s p = (e, 0, (scanM s p).2.2) := by rw [← h2, ← h3]
      rw [scanM_same hsc hq' he, h1]
    · rw [if_neg c3] at h ⊢
      by_cases c4 : byt s p = 45 ∨ 48 ≤ byt s p ∧ byt s p ≤ 57
      · rw [if_pos c4] at h ⊢
        split at h
        · rename_i h5
          injection h with _ h; injection h with _ h; exact absurd h h5
        · rename_i h5
          injection h with h1 h; injection h with h2 _
          have hr := runTo_same (by omega) h2 hq' he (htw _ (.inl rfl) h2)
          rw [hr, sub_same hpe hes hq' he]
          rw [h2] at h5
          rw [if_neg h5, h1]
      · rw [if_neg c4] at h ⊢
        split at h
        · rename_i h5
          injection h with h1 h; injection h with h2 _
          have hr := runTo_same (by omega) h2 hq' he (htw _ (.inr rfl) h2)
          rw [hr, sub_same hpe hes hq' he]
          rw [h2] at h5 h1
          rw [if_pos h5, h1]
        · injection h with _ h; injection h with _ h; cases h
def mvT (φ : Nat → Nat) (t : Tok) : Tok := (t.1, φ t.2.1, φ t.2.2)
structure NR (φ : Nat → Nat) (o o' : Nat) (x y : JN) : Prop where
  kd : y.kd = x.kd
  a : y.a = φ x.a
  b : y.b = φ x.b
  kl : y.kids.length = x.kids.length
  kk : ∀ (q j : Nat), x.kids[q]? = some j → ∃ j', y.kids[q]? = some j' ∧ j + o' = j' + o
def KR (φ : Nat → Nat) (a b : Nat × Nat) : Prop := (b.1 = φ a.1 ∧ b.2 = φ a.2) ∨ (a.1 = 0 ∧ a.2 = 0 ∧ b.1 = 0 ∧ b.2 = 0)
structure LR (φ : Nat → Nat) (n o o' : Nat) (ns NS : List JN) : Prop where
  ln : ns.length + o' = NS.length + o
  at_ : ∀ i I x, n ≤ i → i + o' = I + o → ns[i]? = some x → ∃ y, NS[I]? = some y ∧ NR φ o o' x y
  ky : ∀ i I x y, n < i → i + o' = I + o → ns[i]? = some x → NS[I]? = some y → KR φ (x.ka, x.kb) (y.ka, y.kb)
theorem LR.leaf {φ : Nat → Nat} {n o o' : Nat} {ns NS : List JN} (h : LR φ n o o' ns NS) (t : Tok) (key key' : Nat × Nat) (hky : ns.length ≤ n ∨ KR φ key key') : LR φ n o o' (ns ++ [leafN t key]) (NS ++ [leafN (mvT φ t) key']) := by
  have hl := h.ln
  refine ⟨by simp only [List.length_append, List.length_singleton]; omega, fun i I x h1 h2 h3 => ?_, fun i I x y h1 h2 h3 h4 => ?_⟩
  rotate_left
  · rcases Nat.lt_or_ge i ns.length with h5 | h5
    · rw [List.getElem?_append_left h5] at h3
      rw [List.getElem?_append_left (by omega)] at h4
      exact h.ky i I x y h1 h2 h3 h4
    · have h6 := (List.getElem?_eq_some_iff.1 h3).1
      rw [List.length_append, List.length_singleton] at h6
      obtain rfl : i = ns.length := by omega
      obtain rfl : I = NS.length := by omega
      rw [List.getElem?_append_right (Nat.le_refl _), Nat.sub_self] at h3 h4
      cases h3
      cases h4
      rcases hky with hky | hky
      · omega
      · exact hky
  rcases Nat.lt_or_ge i ns.length with h4 | h4
  · rw [List.getElem?_append_left h4] at h3
    obtain ⟨y, h5, h6⟩ := h.at_ i I x h1 h2 h3
    exact ⟨y, by rw [List.getElem?_append_left (by omega)]; exact h5, h6⟩
  · have h5 := (List.getElem?_eq_some_iff.1 h3).1
    rw [List.length_append, List.length_singleton] at h5
    obtain rfl : i = ns.length := by omega
    obtain rfl : I = NS.length := by omega
    rw [List.getElem?_append_right (Nat.le_refl _), Nat.sub_self] at h3
    cases h3
    exact ⟨leafN (mvT φ t) key', by rw [List.getElem?_append_right (Nat.le_refl _), Nat.sub_self]; rfl, rfl, rfl, rfl, rfl, fun q j h => by simp [leafN] at h⟩
theorem LR.add {φ : Nat → Nat} {n o o' : Nat} {ns NS : List JN} (h : LR φ n o o' ns NS) {k K kid kid' : Nat} (hk : k + o' = K + o) (hkid : kid + o' = kid' + o) (pc pc' : Nat × Nat) : LR φ n o o' (addN ns k kid pc) (addN NS K kid' pc') := by
  refine ⟨by rw [addN_len, addN_len]; exact h.ln, fun i I x h1 h2 h3 => ?_, fun i I x y h1 h2 h3 h4 => ?_⟩
  rotate_left
  · by_cases e : i = k
    · obtain rfl : I = K := by omega
      subst e
      have h5 := (List.getElem?_eq_some_iff.1 h3).1
      have h6 := (List.getElem?_eq_some_iff.1 h4).1
      rw [addN_len] at h5 h6
      rw [addN_self (List.getElem?_eq_getElem h5)] at h3
      rw [addN_self (List.getElem?_eq_getElem h6)] at h4
      cases h3
      cases h4
      have h7 := h.ky i I _ _ h1 h2 (List.getElem?_eq_getElem h5) (List.getElem?_eq_getElem h6)
      exact h7
    · rw [addN_at e] at h3
      rw [addN_at (by omega)] at h4
      exact h.ky i I x y h1 h2 h3 h4
  by_cases e : i = k
  · obtain rfl : I = K := by omega
    subst e
    have h4 := (List.getElem?_eq_some_iff.1 h3).1
    rw [addN_len] at h4
    obtain ⟨x0, hx0⟩ : ∃ x0, ns[i]? = some x0 := ⟨_, List.getElem?_eq_getElem h4⟩
    rw [addN_self hx0] at h3
    cases h3
    obtain ⟨y, h5, h6⟩ := h.at_ i I x0 h1 h2 hx0
    refine ⟨_, addN_self h5, h6.kd, h6.a, h6.b, by simp [h6.kl], fun q j hq => ?_⟩
    simp only at hq ⊢
    rcases Nat.lt_or_ge q x0.kids.length with h7 | h7
    · rw [List.getElem?_append_left h7] at hq
      rw [List.getElem?_append_left (by rw [h6.kl]; exact h7)]
      exact h6.kk q j hq
    · have h8 := (List.getElem?_eq_some_iff.1 hq).1
      rw [List.length_append, List.length_singleton] at h8
      obtain rfl : q = x0.kids.length := by omega
      rw [List.getElem?_append_right (Nat.le_refl _), Nat.sub_self] at hq
      cases hq
      exact ⟨kid', by rw [List.getElem?_append_right (by rw [h6.kl]; exact Nat.le_refl _), h6.kl, Nat.sub_self]; rfl, hkid⟩
  · rw [addN_at e] at h3
    obtain ⟨y, h5, h6⟩ := h.at_ i I x h1 h2 h3
    exact ⟨y, by rw [addN_at (by omega)]; exact h5, h6⟩
theorem LR.close {φ : Nat → Nat} {n o o' : Nat} {ns NS : List JN} (h : LR φ n o o' ns NS) {k K : Nat} (hk : k + o' = K + o) (b : Nat) : LR φ n o o' (closeN ns k b) (closeN NS K (φ b)) := by
  refine ⟨by rw [closeN_len, closeN_len]; exact h.ln, fun i I x h1 h2 h3 => ?_, fun i I x y h1 h2 h3 h4 => ?_⟩
  rotate_left
  · by_cases e : i = k
    · obtain rfl : I = K := by omega
      subst e
      have h5 := (List.getElem?_eq_some_iff.1 h3).1
      have h6 := (List.getElem?_eq_some_iff.1 h4).1
      rw [closeN_len] at h5 h6
      rw [closeN_self (List.getElem?_eq_getElem h5)] at h3
      rw [closeN_self (List.getElem?_eq_getElem h6)] at h4
      cases h3
      cases h4
      have h7 := h.ky i I _ _ h1 h2 (List.getElem?_eq_getElem h5) (List.getElem?_eq_getElem h6)
      exact h7
    · rw [closeN_at e] at h3
      rw [closeN_at (by omega)] at h4
      exact h.ky i I x y h1 h2 h3 h4
  by_cases e : i = k
  · obtain rfl : I = K := by omega
    subst e
    have h4 := (List.getElem?_eq_some_iff.1 h3).1
    rw [closeN_len] at h4
    obtain ⟨x0, hx0⟩ : ∃ x0, ns[i]? = some x0 := ⟨_, List.getElem?_eq_getElem h4⟩
    rw [closeN_self hx0] at h3
    cases h3
    obtain ⟨y, h5, h6⟩ := h.at_ i I x0 h1 h2 hx0
    exact ⟨_, closeN_self h5, h6.kd, h6.a, rfl, h6.kl, h6.kk⟩
  · rw [closeN_at e] at h3
    obtain ⟨y, h5, h6⟩ := h.at_ i I x h1 h2 h3
    exact ⟨y, by rw [closeN_at (by omega)]; exact h5, h6⟩
theorem takeM_yes {z one other : Nat} {t : Tok} {r : List Tok} (h : t.1 = one ∨ t.1 = other) : takeM z one other (t :: r) = .inr (t, r) := by
  unfold takeM
  simp only
  rw [if_neg (by rcases h with h | h <;> simp [h])]
section
variable {φ : Nat → Nat} {n o o' : Nat} {tx tx' : Nat → Nat → Bs} {z z' : Nat} {v v' : List Tok → Nat × Nat → List JN → JRes} {ob : Bool}
def TX (φ : Nat → Nat) (tx tx' : Nat → Nat → Bs) (c : List Tok) : Prop := ∀ t ∈ c, t.1 = 8 → tx' (φ t.2.1) (φ t.2.2) = tx t.2.1 t.2.2
theorem TX.of {c c' : List Tok} (h : TX φ tx tx' c) (hs : ∀ t ∈ c', t ∈ c) : TX φ tx tx' c' := fun t ht => h t (hs t ht)
structure TSR (φ : Nat → Nat) (n o o' : Nat) (tx tx' : Nat → Nat → Bs) (c : List Tok) (ns ns' : List JN) (run : List JN → List Tok → JRes) : Prop where
  pos : 0 < c.length
  up : ns'.length ≤ ns.length + c.length
  ge : ns.length ≤ ns'.length
  go : ∀ NS r, TX φ tx tx' c → LR φ n o o' ns NS → NS.length + c.length ≤ 4096 → ∃ NS', run NS (c.map (mvT φ) ++ r) = .inr (r, NS') ∧ LR φ n o o' ns' NS'
def TS (φ : Nat → Nat) (n o o' : Nat) (tx tx' : Nat → Nat → Bs) (v v' : List Tok → Nat × Nat → List JN → JRes) : Prop := ∀ l key ns l' ns', v l key ns = .inr (l', ns') → n ≤ ns.length →
  ∃ c, l = c ++ l' ∧ (∃ y c0 t, ns'[ns.length]? = some y ∧ c = c0 ++ [t] ∧ y.b = t.2.2 ∧ (c.head?.map fun t => t.2.1) = some y.a) ∧ ∀ key', (ns.length ≤ n ∨ KR φ key key') → TSR φ n o o' tx tx' c ns ns' (fun NS L => v' L key' NS)
end
section
variable {tx : Nat → Nat → Bs} {z : Nat} {v v' : List Tok → Nat × Nat → List JN → JRes} {ob : Bool}
def E5 (v v' : List Tok → Nat × Nat → List JN → JRes) : Prop := ∀ l key ns, v l key ns = v' l key ns ∨ ∃ wh, v l key ns = .inl (wh, 5)
end
section
variable {tx : Nat → Nat → Bs} {z D : Nat} {v : List Tok → Nat × Nat → List JN → JRes} {ob : Bool}
structure SR (z : Nat) (tx : Nat → Nat → Bs) (D : Nat) (l : List Tok) (ns : List JN) (l' : List Tok) (ns' : List JN) : Prop where
  sfx : l' <:+ l
  na : ∀ j x, ns.length ≤ j → ns'[j]? = some x → ∃ t ∈ l, x.a = t.2.1
  sub : ∀ i, ns.length ≤ i → i < ns'.length → ∃ d l1 key1 ns1 l2 ns2, d ≤ D ∧ l1 <:+ l ∧ ns1.length = i ∧ valueM z tx d l1 key1 ns1 = .inr (l2, ns2) ∧ ns2.length ≤ ns'.length ∧ (∀ j, i ≤ j → j < ns2.length → ns'[j]? = ns2[j]?) ∧ l' <:+ l2 ∧ (∀ j x, ns2.length ≤ j → ns'[j]? = some x → ∃ t ∈ l2, x.a = t.2.1)
def VSub (z : Nat) (tx : Nat → Nat → Bs) (D : Nat) (v : List Tok → Nat × Nat → List JN → JRes) : Prop := ∀ l key ns l' ns', v l key ns = .inr (l', ns') → SR z tx D l ns l' ns'
theorem SR.weak {l L l' : List Tok} {ns ns' : List JN} (h : SR z tx D l ns l' ns') (hl : l <:+ L) : SR z tx D L ns l' ns' :=
  ⟨h.sfx.trans hl, fun j x h1 h2 => by obtain ⟨t, h3, h4⟩ := h.na j x h1 h2; exact ⟨t, hl.subset h3, h4⟩, fun i h1 h2 => by
    obtain ⟨d, l1, key1, ns1, l2, ns2, k1, k2, k3⟩ := h.sub i h1 h2
    exact ⟨d, l1, key1, ns1, l2, ns2, k1, k2.trans hl, k3⟩⟩
end
theorem NT.mem {s : ByteArray} {p : Nat} {l : List Tok} (h : NT s p l) : p ≤ s.size → (∀ t ∈ l, p ≤ t.2.1 ∧ t.2.1 < t.2.2 ∧ t.2.2 ≤ s.size) ∧ l.length + p ≤ s.size := by
  induction h with
  | nil _ => exact fun hp => ⟨fun t ht => (by cases ht), (by simp; omega)⟩
  | @cons p k e l h1 h2 h3 h4 ih =>
    intro hp
    have hge := runTo_ge s isBlank p
    have hbd := oneM_bd s _ h1
    rw [h2] at hbd
    simp only at hbd
    have h5 := (hbd.2.2.2 trivial).1
    obtain ⟨i1, i2⟩ := ih hbd.2.1
    refine ⟨fun t ht => ?_, by simp only [List.length_cons]; omega⟩
    rcases List.mem_cons.1 ht with rfl | ht
    · exact ⟨hge, h5, hbd.2.1⟩
    · have := i1 t ht
      omega
theorem ba_same {a b : ByteArray} (h : a.data.toList = b.data.toList) : a = b := by
  cases a; cases b
  simp only at h
  rw [Array.toList_inj.1 h]
theorem jparse_inr {s : ByteArray} {l : List Tok} {ns : List JN} (hs : s.size ≤ 65536) (hl : NT s 0 l) (hv : valueM s.size (keyTx s) 32 l (0, 0) [] = .inr ([], ns)) : jparseM s = .inr ns := by
  obtain ⟨h1, h2⟩ := NT_tokensM hl hs
  unfold jparseM
  rw [if_neg (by omega), h2, hv]
  rfl
section
variable {s t : ByteArray} {m : Nat} (hz : m + s.size ≤ t.size) (hx : ∀ j, j < s.size → byt t (m + j) = byt s j)
include hz hx
end
section
variable {tx : Nat → Nat → Bs} {z : Nat} {v : List Tok → Nat × Nat → List JN → JRes} {ob : Bool}
def W5 (v : List Tok → Nat × Nat → List JN → JRes) : Prop := ∀ l key ns wh, v l key ns = .inl (wh, 5) → ∃ t ∈ l, wh = t.2.1
end
theorem NT_at {t : ByteArray} {p k e : Nat} {l : List Tok} (hp : p < t.size) (ho : oneM t p = (k, e, 0)) (hk : k ≠ 1) (h : NT t e l) : NT t p ((k, p, e) :: l) := by
  have hr : runTo t isBlank p = p := runTo_stop (not_blank ho hk)
  have := @NT.cons t p k e l (by rw [hr]; exact hp) (by rw [hr]; exact ho) hk h
  rwa [hr] at this
theorem NT_end {t : ByteArray} : NT t t.size [] := .nil (runTo_end (Nat.le_refl _))
structure Nest (m kd : Nat) (ns cs : List JN) : Prop where
  ln : cs.length = ns.length + 1
  k0 : ∃ y, cs[0]? = some y ∧ y.kd = kd
  at_ : ∀ i x, ns[i]? = some x → ∃ y, cs[i + 1]? = some y ∧ NR (m + ·) 0 1 x y
theorem kind_end {k : Nat} (h : kindM k ≠ 0) : k ≠ 5 ∧ k ≠ 3 := by
  constructor <;> (rintro rfl; exact h rfl)
structure NestR (s t : ByteArray) (m kd : Nat) (ns : List JN) (l : List Tok) : Prop where
  yes : ∀ us, valueM s.size (keyTx s) 31 l (0, 0) [] = .inr ([], us) → ∃ cs, jparseM t = .inr cs ∧ Nest m kd ns cs
  no : (∀ us, valueM s.size (keyTx s) 31 l (0, 0) [] ≠ .inr ([], us)) → ∃ wh, m ≤ wh ∧ jparseM t = .inl (wh, 5)
structure Alone (i : Nat) (x : JN) (ns cs : List JN) : Prop where
  le : i + cs.length ≤ ns.length
  pos : 0 < cs.length
  at_ : ∀ j y, cs[j]? = some y → ∃ w, ns[i + j]? = some w ∧ y.kd = w.kd ∧ y.a + x.a = w.a ∧ y.b + x.a = w.b ∧ y.kids.length = w.kids.length ∧ ∀ (q k : Nat), y.kids[q]? = some k → w.kids[q]? = some (k + i)
  top : ∃ y, cs[0]? = some y ∧ y.ka = 0 ∧ y.kb = 0
  next : ∀ w, ns[i + cs.length]? = some w → x.b ≤ w.a
  ky : ∀ j y w, 0 < j → cs[j]? = some y → ns[i + j]? = some w → KR (· - x.a) (w.ka, w.kb) (y.ka, y.kb)
end Go.Proofs.YtkafjblfjdpdaaaGreatDoor

