/-
  PLAIN MATHEMATICS: a sorted value's text is as long as the value's own.
-/
import Derived.Test.YtnlkokgekjlmmaaGreatDoorPrF
namespace Go.Proofs.YtnlkokgekjlmmaaGreatDoor
open Go.RowKit
theorem commaB_is (ln : Bs) : ∀ its : List Bs, (commaB ln its).length = (its.map List.length).sum + its.length * ln.length + (its.length - 1)
  | [] => by simp [commaB]
  | x :: r => by
    rw [commaB, List.length_append, flat_len]
    simp only [List.map_cons, List.sum_cons, List.length_cons, List.length_append, Nat.add_mul, Nat.one_mul, Nat.mul_add, Nat.mul_one]
    omega
theorem listB_same {ls : Bool} {n lev : Nat} {o c : UInt8} {a b : List Bs} (h1 : (a.map List.length).sum = (b.map List.length).sum) (h2 : a.length = b.length) : (listB ls n lev o c a).length = (listB ls n lev o c b).length := by
  have h3 : a = [] ↔ b = [] := by
    rw [← List.length_eq_zero_iff, ← List.length_eq_zero_iff, h2]
  unfold listB
  simp only [List.length_cons, List.length_append, commaB_is, h1, h2]
  by_cases ha : a = []
  · rw [if_pos ha, if_pos (h3.1 ha)]
  · rw [if_neg ha, if_neg (fun h => ha (h3.2 h))]
theorem zip_maps {β : Type} (f : Bs → Bs → Bs) (g : β → Bs) : ∀ P : List (Bs × β), List.zipWith f (P.map (·.1)) ((P.map (·.2)).map g) = P.map fun q => f q.1 (g q.2)
  | [] => rfl
  | q :: P => by simp only [List.map_cons, List.zipWith_cons_cons, zip_maps f g P]
theorem zip_zip {β : Type} (f : Bs → Bs → Bs) (g : β → Bs) : ∀ (ks : List Bs) (is : List β), List.zipWith f ks (is.map g) = (ks.zip is).map fun q => f q.1 (g q.2)
  | [], _ => by simp
  | _ :: _, [] => by simp
  | k :: ks, x :: is => by simp only [List.map_cons, List.zipWith_cons_cons, List.zip_cons_cons, zip_zip f g ks is]
theorem zip_map {β γ : Type} (s : β → γ) : ∀ (ks : List Bs) (is : List β), ks.zip (is.map s) = (ks.zip is).map fun q => (q.1, s q.2)
  | [], _ => by simp
  | _ :: _, [] => by simp
  | k :: ks, x :: is => by simp only [List.map_cons, List.zip_cons_cons, zip_map s ks is]
theorem memB_same {ls : Bool} {k x y : Bs} (h : x.length = y.length) : (memB ls k x).length = (memB ls k y).length := by
  unfold memB
  simp only [List.length_append, h]
theorem sort_len (ls : Bool) (n : Nat) : ∀ v : Vl, Good v → ∀ lev : Nat, (prB ls n lev (sortV v)).length = (prB ls n lev v).length := Vl.ind (fun k t ks is ih h lev => by
  have hi := h.items
  by_cases h6 : k = 6
  · subst h6
    rw [sortV_six, prB_mk, prB_mk]
    simp only [if_neg (by decide : ¬ (6 : Int) = 1), if_neg (by decide : ¬ (6 : Int) = 4), if_neg (by decide : ¬ (6 : Int) = 5), if_true]
    rw [zip_maps, zip_zip, zip_map]
    have hp := isort_perm cmpB ((ks.zip is).map fun q => (q.1, sortV q.2))
    generalize isort cmpB ((ks.zip is).map fun q => (q.1, sortV q.2)) = P at hp
    apply listB_same
    · have h1 := ((hp.map fun q => memB ls q.1 (prB ls n (lev + 1) q.2)).map List.length).sum_nat
      rw [h1]
      congr 1
      simp only [List.map_map]
      apply List.map_congr_left
      intro q hq
      simp only [Function.comp]
      exact memB_same (ih q.2 (List.of_mem_zip hq).2 (hi _ (List.of_mem_zip hq).2) (lev + 1))
    · rw [List.length_map, List.length_map, hp.length_eq, List.length_map]
  · rw [sortV_else h6, prB_mk, prB_mk]
    simp only [if_neg h6]
    split
    · rfl
    split
    · rfl
    split
    · apply listB_same
      · congr 1
        simp only [List.map_map]
        apply List.map_congr_left
        intro x hx
        simp only [Function.comp]
        exact ih x hx (hi x hx) (lev + 1)
      · simp
    · rfl)
theorem sort_allk (p : Int → Bool) : ∀ v : Vl, Good v → (sortV v).allB (fun x => p x.k) = v.allB (fun x => p x.k) := Vl.ind (fun k t ks is ih h => by
  have hi := h.items
  have key : ∀ l : List Vl, (∀ x : Vl, x ∈ l ↔ ∃ y ∈ is, sortV y = x) → (Vl.allsB (fun x => p x.k) l = true ↔ Vl.allsB (fun x => p x.k) is = true) := fun l hl => by
    rw [Vl.allsB_iff, Vl.allsB_iff]
    constructor
    · intro h1 y hy
      have := h1 (sortV y) ((hl _).2 ⟨y, hy, rfl⟩)
      rwa [ih y hy (hi y hy)] at this
    · intro h1 x hx
      obtain ⟨y, hy, rfl⟩ := (hl x).1 hx
      rw [ih y hy (hi y hy)]
      exact h1 y hy
  by_cases h6 : k = 6
  · subst h6
    obtain ⟨hl, _, _⟩ := h.obj rfl
    rw [sortV_six]
    simp only [Vl.allB, Vl.k]
    congr 1
    rw [Bool.eq_iff_iff]
    apply key
    intro x
    have hp := isort_perm cmpB (ks.zip (is.map sortV))
    have hm : ((isort cmpB (ks.zip (is.map sortV))).map (·.2)).Perm (is.map sortV) := by
      have h1 := hp.map (·.2)
      have h2 : (ks.zip (is.map sortV)).map (·.2) = is.map sortV := by
        have := List.map_snd_zip (l₁ := ks) (l₂ := is.map sortV) (by rw [List.length_map]; omega)
        exact this
      rwa [h2] at h1
    rw [hm.mem_iff, List.mem_map]
  · rw [sortV_else h6]
    simp only [Vl.allB, Vl.k]
    congr 1
    rw [Bool.eq_iff_iff]
    apply key
    intro x
    rw [List.mem_map])
theorem right_open {v : Vl} : rightM v = (openM v && v.allB (fun x => decide (x.k ≠ 7))) := by
  unfold rightM openM
  rw [Vl.allB_and]
  simp only [Bool.and_assoc]
theorem zeroL_closed : openM zeroL = false := by kernel_rfl
theorem sortM_right (v : Vl) : rightM (sortM v) = rightM v := by
  by_cases h : openM v = true
  · have e : sortM v = sortV v := if_pos h
    rw [e, right_open, right_open, open_sort h, h, sort_allk (fun k => decide (k ≠ 7)) v (open_good h).1]
  · have e : sortM v = zeroL := if_neg h
    have h' : openM v = false := by simpa using h
    rw [e, right_open, right_open, zeroL_closed, h']
    rfl
theorem canon_len (v : Vl) : (compactM (sortM v)).1.length = (compactM v).1.length ∧ (compactM (sortM v)).2 = (compactM v).2 := by
  unfold compactM
  rw [sortM_right]
  by_cases h : rightM v = true
  · rw [if_pos h, if_pos h]
    have ho : openM v = true := by
      rw [right_open, Bool.and_eq_true] at h
      exact h.1
    have e : sortM v = sortV v := if_pos ho
    rw [e]
    exact ⟨sort_len false 0 v (open_good ho).1 0, rfl⟩
  · rw [if_neg h, if_neg h]
    exact ⟨rfl, rfl⟩
end Go.Proofs.YtnlkokgekjlmmaaGreatDoor
