/-
  PLAIN MATHEMATICS: which parts a text is; the text of picked sides.
-/
import Derived.Test.YtekihjffefokjaaDoorMkE
namespace Go.Proofs.YtekihjffefokjaaDoor

open Classical in
/-- the parts whose text this is -/
noncomputable def decM (s : Bs) : Option (List MPart) := if h : ∃ l, GoodM l ∧ encM l = s then some h.choose else none
theorem decM_some {s : Bs} {l : List MPart} (h : GoodM l) (he : encM l = s) : decM s = some l := by
  have hx : ∃ l, GoodM l ∧ encM l = s := ⟨l, h, he⟩
  unfold decM
  rw [dif_pos hx]
  exact congrArg some (enc_inj hx.choose_spec.1 h (hx.choose_spec.2.trans he.symm))
theorem decM_none {s : Bs} (h : ∀ l, GoodM l → encM l ≠ s) : decM s = none := by
  unfold decM
  rw [dif_neg]
  rintro ⟨l, h1, h2⟩
  exact h l h1 h2
theorem decM_is {s : Bs} {l : List MPart} (h : decM s = some l) : GoodM l ∧ encM l = s := by
  unfold decM at h
  split at h
  · rename_i hx
    have := Option.some.inj h
    rw [← this]
    exact hx.choose_spec
  · cases h
theorem decM_cases (s : Bs) : (∃ l, GoodM l ∧ encM l = s ∧ decM s = some l) ∨ ((∀ l, GoodM l → encM l ≠ s) ∧ decM s = none) := by
  by_cases h : ∃ l, GoodM l ∧ encM l = s
  · obtain ⟨l, h1, h2⟩ := h
    exact .inl ⟨l, h1, h2, decM_some h1 h2⟩
  · have h' : ∀ l, GoodM l → encM l ≠ s := fun l h1 h2 => h ⟨l, h1, h2⟩
    exact .inr ⟨h', decM_none h'⟩

/-- a side, by what is picked -/
def sideM (x : MPart) (k : Int) : Bs := if k = 0 then x.s0 else if k = 1 then x.s1 else x.s2
def pickGo : List MPart → List Int → Option Bs
  | [], [] => some []
  | [], _ :: _ => none
  | x :: l, ps => if x.hunk = true then
      (match ps with
      | [] => none
      | p :: ps => if 0 ≤ p ∧ p ≤ 2 then (pickGo l ps).map fun t => sideM x p ++ t else none)
    else (pickGo l ps).map fun t => x.text ++ t
open Classical in
noncomputable def pickM (l : List MPart) (ps : List Int) : Option Bs := if RightM l then pickGo l ps else none
theorem pickGo_len : ∀ (l : List MPart) (ps : List Int), nH l ≠ ps.length → pickGo l ps = none
  | [], [], h => absurd rfl h
  | [], _ :: _, _ => rfl
  | x :: l, ps, h => by
    unfold pickGo
    unfold nH at h
    cases hx : x.hunk with
    | true =>
      rw [if_pos rfl]
      rw [hx, if_pos rfl] at h
      cases ps with
      | nil => rfl
      | cons p ps =>
        simp only
        rw [pickGo_len l ps (by rw [List.length_cons] at h; omega)]
        split <;> rfl
    | false =>
      rw [if_neg Bool.false_ne_true]
      rw [hx, if_neg Bool.false_ne_true] at h
      rw [pickGo_len l ps (by omega)]; rfl
theorem pickGo_hunk {x : MPart} {l : List MPart} {p : Int} {ps : List Int} (h : x.hunk = true) (hp : 0 ≤ p ∧ p ≤ 2) : pickGo (x :: l) (p :: ps) = (pickGo l ps).map fun t => sideM x p ++ t := by
  rw [pickGo, if_pos h]
  exact if_pos hp
theorem pickGo_bad {x : MPart} {l : List MPart} {p : Int} {ps : List Int} (h : x.hunk = true) (hp : ¬ (0 ≤ p ∧ p ≤ 2)) : pickGo (x :: l) (p :: ps) = none := by
  rw [pickGo, if_pos h]
  exact if_neg hp
theorem pickGo_none {x : MPart} {l : List MPart} (h : x.hunk = true) : pickGo (x :: l) [] = none := by
  rw [pickGo, if_pos h]
theorem pickGo_text {x : MPart} {l : List MPart} {ps : List Int} (h : x.hunk = false) : pickGo (x :: l) ps = (pickGo l ps).map fun t => x.text ++ t := by
  conv => lhs; rw [pickGo.eq_def]
  simp only
  rw [if_neg (by rw [h]; exact Bool.false_ne_true)]
/-- one hunk more takes one pick more -/
theorem pickGo_more (x : MPart) (hx : x.hunk = true) (i : Int) (hi : 0 ≤ i ∧ i ≤ 2) : ∀ (l : List MPart) (ps : List Int) (t : Bs), pickGo l ps = some t → pickGo (l ++ [x]) (ps ++ [i]) = some (t ++ sideM x i)
  | [], [], t, h => by
    have := Option.some.inj h
    subst this
    rw [List.nil_append, List.nil_append, pickGo_hunk hx hi]
    show some (sideM x i ++ []) = some ([] ++ sideM x i)
    rw [List.append_nil, List.nil_append]
  | [], _ :: _, t, h => by cases h
  | y :: l, ps, t, h => by
    cases hy : y.hunk with
    | true =>
      cases ps with
      | nil => rw [pickGo_none hy] at h; cases h
      | cons p ps =>
        by_cases hp : 0 ≤ p ∧ p ≤ 2
        · rw [pickGo_hunk hy hp] at h
          cases hl : pickGo l ps with
          | none => rw [hl] at h; cases h
          | some u =>
            rw [hl] at h
            have := Option.some.inj h
            subst this
            rw [List.cons_append, List.cons_append, pickGo_hunk hy hp, pickGo_more x hx i hi l ps u hl]
            show some (sideM y p ++ (u ++ sideM x i)) = some ((sideM y p ++ u) ++ sideM x i)
            rw [List.append_assoc]
        · rw [pickGo_bad hy hp] at h; cases h
    | false =>
      rw [pickGo_text hy] at h
      cases hl : pickGo l ps with
      | none => rw [hl] at h; cases h
      | some u =>
        rw [hl] at h
        have := Option.some.inj h
        subst this
        rw [List.cons_append, pickGo_text hy, pickGo_more x hx i hi l ps u hl]
        show some (y.text ++ (u ++ sideM x i)) = some ((y.text ++ u) ++ sideM x i)
        rw [List.append_assoc]
theorem nH_app : ∀ (l : List MPart) (x : MPart), nH (l ++ [x]) = nH l + (if x.hunk = true then 1 else 0)
  | [], x => by show (if x.hunk = true then 1 else 0) + 0 = 0 + _; omega
  | y :: l, x => by
    show (if y.hunk = true then 1 else 0) + nH (l ++ [x]) = ((if y.hunk = true then 1 else 0) + nH l) + _
    rw [nH_app l x]; omega
theorem pickGo_nH {l : List MPart} {ps : List Int} {t : Bs} (h : pickGo l ps = some t) : nH l = ps.length := by
  by_cases hn : nH l = ps.length
  · exact hn
  · rw [pickGo_len l ps hn] at h; cases h
theorem okL_app (x : MPart) (hx : x.hunk = true) (ht : x.text = []) : ∀ (l : List MPart) (a : Bool), okL a l → okL a (l ++ [x])
  | [], a, _ => by show okL a [x]; unfold okL; rw [if_pos hx]; exact ⟨ht, trivial⟩
  | y :: l, a, h => by
    rw [List.cons_append]
    unfold okL at h ⊢
    split
    · rename_i hy
      rw [if_pos hy] at h
      exact ⟨h.1, okL_app x hx ht l true h.2⟩
    · rename_i hy
      rw [if_neg hy] at h
      exact ⟨h.1, h.2.1, h.2.2.1, h.2.2.2.1, h.2.2.2.2.1, okL_app x hx ht l false h.2.2.2.2.2⟩
end Go.Proofs.YtekihjffefokjaaDoor
