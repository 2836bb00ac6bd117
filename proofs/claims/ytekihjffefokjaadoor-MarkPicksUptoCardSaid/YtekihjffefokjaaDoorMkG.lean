/-
  PLAIN MATHEMATICS: how long parts are that are cut out of a text; and what is made of them. A row that the call has made, read.
-/
import Derived.Test.YtekihjffefokjaaDoorMkQ
import Derived.Test.YtekihjffefokjaaDoorMkN
namespace Go.Proofs.YtekihjffefokjaaDoor
open Go.RowKit

theorem lens_mono {N M : Nat} (h : N ≤ M) {x : MPart} (hx : Lens N x) : Lens M x := ⟨Nat.le_trans hx.1 h, Nat.le_trans hx.2.1 h, Nat.le_trans hx.2.2.1 h, Nat.le_trans hx.2.2.2 h⟩
theorem parts_lens (n N : Nat) : ∀ (f : Nat) (s : Bs) (l : List MPart), s.length ≤ N → partsM n f s = some l → ∀ x ∈ l, Lens N x := by
  intro f
  induction f with
  | zero =>
    intro s l _ h x hx
    have := Option.some.inj h
    subst this
    cases hx
  | succ f ih =>
    intro s l hs h x hx
    unfold partsM at h
    split at h
    · have := Option.some.inj h
      subst this
      cases hx
    · cases h1 : cutL (mrk 60 n) s with
      | none =>
        rw [h1] at h
        have := Option.some.inj h
        subst this
        rw [List.mem_singleton.1 hx]
        exact ⟨hs, Nat.zero_le _, Nat.zero_le _, Nat.zero_le _⟩
      | some y =>
        obtain ⟨t, r⟩ := y
        have l1 := cutL_len h1
        rw [h1] at h
        simp only at h
        cases h2 : cutL (mrk 124 n) r with
        | none => rw [h2] at h; cases h
        | some y =>
          obtain ⟨b1, r1⟩ := y
          have l2 := cutL_len h2
          rw [h2] at h
          simp only at h
          cases h3 : cutL (mrk 61 n) r1 with
          | none => rw [h3] at h; cases h
          | some y =>
            obtain ⟨b0, r2⟩ := y
            have l3 := cutL_len h3
            rw [h3] at h
            simp only at h
            cases h4 : cutL (mrk 62 n) r2 with
            | none => rw [h4] at h; cases h
            | some y =>
              obtain ⟨b2, r3⟩ := y
              have l4 := cutL_len h4
              rw [h4] at h
              simp only at h
              cases h5 : partsM n f r3 with
              | none => rw [h5] at h; cases h
              | some m =>
                rw [h5] at h
                have := Option.some.inj h
                subst this
                rcases List.mem_append.1 hx with hx | hx
                · by_cases ht : t = []
                  · rw [if_pos ht] at hx; cases hx
                  · rw [if_neg ht] at hx
                    rw [List.mem_singleton.1 hx]
                    exact ⟨by show t.length ≤ N; omega, Nat.zero_le _, Nat.zero_le _, Nat.zero_le _⟩
                · rcases List.mem_cons.1 hx with rfl | hx
                  · exact ⟨Nat.zero_le _, by show b0.length ≤ N; omega, by show b1.length ≤ N; omega, by show b2.length ≤ N; omega⟩
                  · exact ih r3 m (by omega) h5 x hx
theorem grtGo_le (N : Nat) : ∀ (l : List MPart) (a : Nat), a ≤ N → (∀ x ∈ l, Lens N x) → grtGo a l ≤ N
  | [], _, h, _ => h
  | x :: l, a, h, hx => by
    have h1 := hx x (List.mem_cons_self ..)
    have k1 := runM_le x.text
    have k2 := runM_le x.s0
    have k3 := runM_le x.s1
    have k4 := runM_le x.s2
    obtain ⟨z1, z2, z3, z4⟩ := h1
    exact grtGo_le N l _ (by unfold runsM; omega) (fun y hy => hx y (List.mem_cons_of_mem _ hy))
theorem widthM_le {N : Nat} {l : List MPart} (h6 : 6 ≤ N) (h : ∀ x ∈ l, Lens N x) : widthM l ≤ N + 1 := by
  have := grtGo_le N l 6 h6 h
  unfold widthM
  omega
theorem encGo_le (n N : Nat) : ∀ l : List MPart, (∀ x ∈ l, Lens N x) → (encGo n l).length ≤ l.length * (4 * (n + 2) + 4 * N)
  | [], _ => Nat.zero_le _
  | x :: l, h => by
    have h1 := encGo_le n N l (fun y hy => h y (List.mem_cons_of_mem _ hy))
    obtain ⟨z1, z2, z3, z4⟩ := h x (List.mem_cons_self ..)
    show (partB n x ++ encGo n l).length ≤ (l.length + 1) * _
    rw [List.length_append, Nat.add_mul, Nat.one_mul]
    have h2 : (partB n x).length ≤ 4 * (n + 2) + 4 * N := by
      unfold partB
      split
      · simp only [List.length_append, mrk_len]; omega
      · omega
    omega
theorem head_le (n : Nat) (hn : n ≤ 4294967290) : (headB n).length ≤ 1100 := by
  unfold headB
  have : (Lib.decDigits n).length ≤ 1000 := by
    rw [← itoa_nat]
    exact Nat.le_trans (Lib.itoa_length_le _ (by omega) (by omega)) (by omega)
  simp only [List.length_append, headL, List.length_cons, List.length_nil]
  omega
theorem enc_le (N : Nat) (l : List MPart) (h6 : 6 ≤ N) (hN : N ≤ 16777216) (h : ∀ x ∈ l, Lens N x) (hk : l.length ≤ 4096) : (encM l).length ≤ 1099511627776 := by
  have hw := widthM_le h6 h
  have he := encGo_le (widthM l) N l h
  have hh := head_le (widthM l) (by omega)
  have hm : l.length * (4 * (widthM l + 2) + 4 * N) ≤ 4096 * (4 * (widthM l + 2) + 4 * N) := Nat.mul_le_mul_right _ hk
  unfold encM
  rw [List.length_append]
  split
  · omega
  · simp only [List.length_nil]; omega
theorem right_len {l : List MPart} (h : rightB l = true) : l.length ≤ 4096 := ((rightB_iff l).1 h).1
/-- the cells of a row of parts -/
theorem partCells_at (l : List MPart) : ∀ (i : Nat) (x : MPart), l[i]? = some x → ∀ j, j < 5 → (partCells l)[i * 5 + j]? = [Value.bool x.hunk, .string (st x.text), .string (st x.s0), .string (st x.s1), .string (st x.s2)][j]? := by
  induction l with
  | nil => intro i x h; simp at h
  | cons y l ih =>
    intro i x h j hj
    have hc : partCells (y :: l) = [Value.bool y.hunk, .string (st y.text), .string (st y.s0), .string (st y.s1), .string (st y.s2)] ++ partCells l := rfl
    cases i with
    | zero =>
      simp at h
      subst h
      rw [hc, Nat.zero_mul, Nat.zero_add, List.getElem?_append_left (by simpa using hj)]
    | succ i =>
      simp only [List.getElem?_cons_succ] at h
      have := ih i x h j hj
      rw [hc, List.getElem?_append_right (by simp; omega), ← this]
      congr 1
      simp
      omega
theorem prow_in {w : World} {B : Nat} {v : Value} {l : List MPart} (h : PRow w B v l) : ∃ o cap, v = .slice o l.length cap ∧ l.length ≤ cap ∧ cap ≤ maxLen ∧ PartsIn w o l := by
  rcases h.2 with ⟨hv, h0⟩ | ⟨g, cap, cur, hv, hg, hh, hc, hm, _⟩
  · have hl : l = [] := List.eq_nil_of_length_eq_zero h0
    subst hl
    exact ⟨none, 0, hv, Nat.le_refl _, Nat.zero_le _, PartsIn.nil _ _⟩
  · refine ⟨some ⟨g, 0, none⟩, cap, hv, hc, hm, fun i hi => ⟨g, 0, rfl, ?_⟩⟩
    have hcl := h.cells (g := g) (by rw [hv]; rfl)
    have hs := partCells_at l i l[i] (List.getElem?_eq_getElem hi)
    have hc' : ∀ j u, (partCells l)[i * 5 + j]? = some u → w.cell? ⟨g, 0 + i * 5 + j, none⟩ = some u := fun j u hu => by
      have e1 : (⟨g, 0, none⟩ : Addr).add (i * 5 + j) = ⟨g, 0 + i * 5 + j, none⟩ := by simp [Addr.add]; omega
      rw [← e1]
      exact hcl _ _ hu
    exact ⟨hc' 0 _ (hs 0 (by decide)), hc' 1 _ (hs 1 (by decide)), hc' 2 _ (hs 2 (by decide)), hc' 3 _ (hs 3 (by decide)), hc' 4 _ (hs 4 (by decide))⟩
end Go.Proofs.YtekihjffefokjaaDoor
