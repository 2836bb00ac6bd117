/-
  PLAIN MATHEMATICS: names merged one by one: the least one ahead of which none stands.
-/
import Derived.Test.YtccdmoogjcgcfaaOrR
namespace Go.Proofs.Ytccdmoogjcgcfaa

section
variable (bef : Bs → Bs → Bool)
/-- how many of those that are left stand ahead of a name -/
def wcnt (rest : List Bs) (x : Bs) : Nat := (rest.filter fun y => !(y == x) && bef y x).length
/-- does none of them stand ahead of it? -/
def free (rest : List Bs) (x : Bs) : Bool := rest.all fun y => y == x || !bef y x
def mergeGo : Nat → List Bs → Option (List Bs)
  | 0, _ => some []
  | _ + 1, [] => some []
  | f + 1, y :: rest => match (y :: rest).find? (free bef (y :: rest)) with
    | none => none
    | some x => (mergeGo f ((y :: rest).erase x)).map fun l => x :: l
end
section
variable {bef : Bs → Bs → Bool}
theorem wcnt_free (rest : List Bs) (x : Bs) : free bef rest x = decide (wcnt bef rest x = 0) := by
  unfold free wcnt
  rw [Bool.eq_iff_iff, List.all_eq_true, decide_eq_true_iff, List.length_eq_zero_iff, List.filter_eq_nil_iff]
  constructor
  · intro h y hy hp
    have := h y hy
    simp at this hp
    rcases this with h1 | h1
    · exact hp.1 h1
    · rw [h1] at hp; exact absurd hp.2 (by simp)
  · intro h y hy
    have := h y hy
    simp at this ⊢
    by_cases e : y = x
    · exact .inl e
    · exact .inr (this e)
theorem wcnt_perm {a b : List Bs} (h : a.Perm b) (x : Bs) : wcnt bef a x = wcnt bef b x := (h.filter _).length_eq
theorem free_perm {a b : List Bs} (h : a.Perm b) (x : Bs) : free bef a x = free bef b x := by rw [wcnt_free, wcnt_free, wcnt_perm h]
theorem wcnt_erase {rest : List Bs} {nx x : Bs} (h : nx ∈ rest) (hne : nx ≠ x) : wcnt bef rest x = wcnt bef (rest.erase nx) x + (if bef nx x = true then 1 else 0) := by
  rw [wcnt_perm (List.perm_cons_erase h) x]
  unfold wcnt
  rw [List.filter_cons]
  have e : (!(nx == x) && bef nx x) = bef nx x := by
    have : (nx == x) = false := beq_eq_false_iff_ne.2 hne
    rw [this]; rfl
  rw [e]
  by_cases hb : bef nx x = true
  · rw [if_pos hb, if_pos hb, List.length_cons]
  · rw [if_neg hb, if_neg hb]; rfl
theorem mergeGo_nil (f : Nat) : mergeGo bef f [] = some [] := by cases f <;> rfl
theorem mergeGo_none {f : Nat} {rest : List Bs} (h0 : rest ≠ []) (h : rest.find? (free bef rest) = none) : mergeGo bef (f + 1) rest = none := by
  cases rest with
  | nil => exact absurd rfl h0
  | cons y r => unfold mergeGo; rw [h]
theorem mergeGo_some {f : Nat} {rest : List Bs} {x : Bs} (h : rest.find? (free bef rest) = some x) : mergeGo bef (f + 1) rest = (mergeGo bef f (rest.erase x)).map fun l => x :: l := by
  cases rest with
  | nil => cases h
  | cons y r => conv => lhs; unfold mergeGo; rw [h]
/-- what is merged has each name once -/
theorem mergeGo_perm : ∀ (f : Nat) (rest l : List Bs), rest.length ≤ f → mergeGo bef f rest = some l → l.Perm rest
  | f, [], l, _, h => by
    rw [mergeGo_nil] at h
    have := Option.some.inj h
    subst this
    exact List.Perm.refl _
  | 0, _ :: _, l, hf, _ => by simp at hf
  | f + 1, y :: rest, l, hf, h => by
    cases hx : (y :: rest).find? (free bef (y :: rest)) with
    | none => rw [mergeGo_none (by simp) hx] at h; cases h
    | some x =>
      rw [mergeGo_some hx] at h
      have hm := List.mem_of_find?_eq_some hx
      cases hr : mergeGo bef f ((y :: rest).erase x) with
      | none => rw [hr] at h; cases h
      | some l' =>
        rw [hr] at h
        have := Option.some.inj h
        subst this
        have hl := List.length_erase_of_mem hm
        have h1 := mergeGo_perm f _ l' (by rw [hl]; simp at hf ⊢; omega) hr
        exact (h1.cons x).trans (List.perm_cons_erase hm).symm
/-- .. and nothing that stands behind a name stands ahead of it -/
theorem mergeGo_keeps : ∀ (f : Nat) (rest l : List Bs), rest.length ≤ f → rest.Nodup → mergeGo bef f rest = some l → l.Pairwise fun a b => bef b a = false
  | f, [], l, _, _, h => by
    rw [mergeGo_nil] at h
    have := Option.some.inj h
    subst this
    exact List.Pairwise.nil
  | 0, _ :: _, l, hf, _, _ => by simp at hf
  | f + 1, y :: rest, l, hf, hn, h => by
    cases hx : (y :: rest).find? (free bef (y :: rest)) with
    | none => rw [mergeGo_none (by simp) hx] at h; cases h
    | some x =>
      rw [mergeGo_some hx] at h
      have hm := List.mem_of_find?_eq_some hx
      have hfr := List.find?_some hx
      cases hr : mergeGo bef f ((y :: rest).erase x) with
      | none => rw [hr] at h; cases h
      | some l' =>
        rw [hr] at h
        have := Option.some.inj h
        subst this
        have hl := List.length_erase_of_mem hm
        have hl2 : ((y :: rest).erase x).length ≤ f := by rw [hl]; simp at hf ⊢; omega
        have h1 := mergeGo_perm f _ l' hl2 hr
        refine List.Pairwise.cons (fun b hb => ?_) (mergeGo_keeps f _ l' hl2 (hn.erase x) hr)
        have hb1 := h1.mem_iff.1 hb
        have hb2 : b ≠ x := fun e => by
          rw [e] at hb1
          exact (List.Nodup.not_mem_erase hn) hb1
        have hb3 := List.mem_of_mem_erase hb1
        unfold free at hfr
        have h4 := List.all_eq_true.1 hfr b hb3
        have h5 : (b == x) = false := beq_eq_false_iff_ne.2 hb2
        rw [h5] at h4
        simpa using h4
/-- of a sorted row and another one of the same names: the first free one is the least free one -/
theorem find_least {p : Bs → Bool} {r : Bs → Bs → Prop} : ∀ {s : List Bs} {x : Bs}, s.Pairwise r → s.find? p = some x → p x = true ∧ x ∈ s ∧ ∀ y ∈ s, p y = true → y = x ∨ r x y
  | [], x, _, h => by cases h
  | a :: s, x, hs, h => by
    rw [List.find?_cons] at h
    cases ha : p a with
    | true =>
      rw [ha] at h
      have := Option.some.inj h
      subst this
      refine ⟨ha, List.mem_cons_self .., fun y hy _ => ?_⟩
      rcases List.mem_cons.1 hy with rfl | hy
      · exact .inl rfl
      · exact .inr ((List.pairwise_cons.1 hs).1 y hy)
    | false =>
      rw [ha] at h
      obtain ⟨h1, h2, h3⟩ := find_least (List.pairwise_cons.1 hs).2 h
      refine ⟨h1, List.mem_cons_of_mem _ h2, fun y hy hp => ?_⟩
      rcases List.mem_cons.1 hy with rfl | hy
      · rw [hp] at ha; cases ha
      · exact h3 y hy hp
end
end Go.Proofs.Ytccdmoogjcgcfaa
