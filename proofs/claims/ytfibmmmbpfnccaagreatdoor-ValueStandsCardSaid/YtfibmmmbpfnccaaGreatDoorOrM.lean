/-
  PLAIN MATHEMATICS: the places of names; what rows say of two of them.
-/
import Derived.Test.YtfibmmmbpfnccaaGreatDoorNumMath
import Derived.Maps.Views
import Derived.Maps.Own
namespace Go.Proofs.YtfibmmmbpfnccaaGreatDoor
open Go.Maps

/-- the last place of a name among the first ones -/
def lastTo (x : Bs) (l : List Bs) : Nat → Option Nat
  | 0 => none
  | k + 1 => if l[k]? = some x then some k else lastTo x l k
def lastIx (x : Bs) (l : List Bs) : Option Nat := lastTo x l l.length
theorem lastTo_step {x : Bs} {l : List Bs} {k : Nat} (h : k < l.length) : lastTo x l (k + 1) = if l[k] = x then some k else lastTo x l k := by
  rw [lastTo, List.getElem?_eq_getElem h]
  by_cases he : l[k] = x
  · rw [if_pos (by rw [he]), if_pos he]
  · rw [if_neg (fun e => he (Option.some.inj e)), if_neg he]
theorem lastTo_lt {x : Bs} {l : List Bs} : ∀ {k i : Nat}, lastTo x l k = some i → i < k ∧ l[i]? = some x
  | 0, i, h => by cases h
  | k + 1, i, h => by
    unfold lastTo at h
    split at h
    · rename_i he
      have := Option.some.inj h
      subst this
      exact ⟨Nat.lt_succ_self _, he⟩
    · have := lastTo_lt h
      exact ⟨by omega, this.2⟩
theorem lastTo_none {x : Bs} {l : List Bs} : ∀ {k : Nat}, lastTo x l k = none ↔ ∀ i, i < k → l[i]? ≠ some x
  | 0 => ⟨fun _ i hi => absurd hi (Nat.not_lt_zero i), fun _ => rfl⟩
  | k + 1 => by
    unfold lastTo
    split
    · rename_i he
      exact ⟨(fun h => by cases h), fun h => absurd he (h k (Nat.lt_succ_self _))⟩
    · rename_i he
      rw [lastTo_none]
      constructor
      · intro h i hi
        by_cases hk : i = k
        · rw [hk]; exact he
        · exact h i (by omega)
      · intro h i hi
        exact h i (by omega)
/-- the map of the places of the first names -/
def mapTo (l : List Bs) : Nat → DataW Unit
  | 0 => .map []
  | k + 1 => (mapTo l k).put (.string (l.getD k [])) (.lit (.int .i64 k))
def mapD (l : List Bs) : DataW Unit := mapTo l l.length
theorem isKey_str (x : Bs) : WideAt.IsKeyLit (.string x) := by first | exact trivial | simp [WideAt.IsKeyLit]
theorem tidy_mapTo (l : List Bs) : ∀ k, Tidy (mapTo l k)
  | 0 => tidy_empty
  | k + 1 => (tidy_mapTo l k).put (isKey_str _) _
theorem has_mapTo (x : Bs) (l : List Bs) : ∀ k, k ≤ l.length → has (mapTo l k) (.string x) = (lastTo x l k).isSome
  | 0, _ => rfl
  | k + 1, h => by
    have hk : k < l.length := h
    rw [lastTo_step hk, mapTo]
    have hg : l.getD k [] = l[k] := by simp [hk]
    rw [hg]
    by_cases he : l[k] = x
    · rw [he, if_pos rfl, has_put_same (tidy_mapTo l k).isMap (isKey_str _)]; rfl
    · rw [if_neg he, has_put_other (by intro e; injection e with e; exact he e.symm), has_mapTo x l k (by omega)]
theorem at_mapTo (x : Bs) (l : List Bs) (z : DataW Unit) : ∀ k, k ≤ l.length → (mapTo l k).atKey (.string x) z = match lastTo x l k with | some i => .lit (.int .i64 i) | none => z
  | 0, _ => rfl
  | k + 1, h => by
    have hk : k < l.length := h
    rw [lastTo_step hk, mapTo]
    have hg : l.getD k [] = l[k] := by simp [hk]
    rw [hg]
    by_cases he : l[k] = x
    · rw [he, if_pos rfl, atKey_put_same (tidy_mapTo l k).isMap (isKey_str _)]
    · rw [if_neg he, atKey_put_other (by intro e; injection e with e; exact he e.symm), at_mapTo x l z k (by omega)]
theorem size_mapTo (l : List Bs) : ∀ k, k ≤ l.length → size (mapTo l k) ≤ k ∧ (size (mapTo l k) = k ↔ (l.take k).Nodup)
  | 0, _ => ⟨Nat.le_refl _, by rw [List.take_zero]; exact ⟨fun _ => List.nodup_nil, fun _ => rfl⟩⟩
  | k + 1, h => by
    have hk : k < l.length := h
    obtain ⟨h1, h2⟩ := size_mapTo l k (by omega)
    have hg : l.getD k [] = l[k] := by simp [hk]
    have ht : l.take (k + 1) = l.take k ++ [l[k]] := List.take_succ_eq_append_getElem hk
    have hm : has (mapTo l k) (.string l[k]) = true ↔ l[k] ∈ l.take k := by
      rw [has_mapTo _ _ _ (by omega)]
      cases hl : lastTo l[k] l k with
      | none =>
        have h3 := lastTo_none.1 hl
        refine ⟨(fun h => by cases h), fun h => ?_⟩
        obtain ⟨i, hi, e⟩ := List.mem_iff_getElem.1 h
        rw [List.length_take] at hi
        exact absurd (by rw [List.getElem?_eq_getElem (by omega), ← e, List.getElem_take]) (h3 i (by omega))
      | some i =>
        obtain ⟨h3, h4⟩ := lastTo_lt hl
        refine ⟨fun _ => ?_, fun _ => rfl⟩
        refine List.mem_iff_getElem.2 ⟨i, by rw [List.length_take]; omega, ?_⟩
        rw [List.getElem_take]
        rw [List.getElem?_eq_getElem (by omega)] at h4
        exact Option.some.inj h4
    rw [mapTo, hg, size_put (tidy_mapTo l k), ht, List.nodup_append]
    by_cases hh : has (mapTo l k) (.string l[k]) = true
    · rw [if_pos hh]
      refine ⟨by omega, fun h => by omega, fun h => ?_⟩
      exact absurd rfl (h.2.2 l[k] (hm.1 hh) l[k] (List.mem_singleton.2 rfl))
    · rw [if_neg hh]
      refine ⟨by omega, fun h => ?_, fun h => ?_⟩
      · refine ⟨h2.1 (by omega), by simp, ?_⟩
        intro a ha b hb e
        rw [List.mem_singleton] at hb
        exact hh (hm.2 (by rw [← hb, ← e]; exact ha))
      · have := h2.2 h.1
        omega
/-- is a row right? -/
def onceB (l : List Bs) : Bool := decide (l.length ≤ 256) && decide (size (mapD l) = l.length)
theorem onceB_iff (l : List Bs) : onceB l = true ↔ l.length ≤ 256 ∧ l.Nodup := by
  unfold onceB mapD
  have := (size_mapTo l l.length (Nat.le_refl _)).2
  rw [List.take_length] at this
  rw [Bool.and_eq_true, decide_eq_true_iff, decide_eq_true_iff, this]
/-- what a row says of two names -/
def sayM (l : List Bs) (x y : Bs) : Int := match lastIx x l, lastIx y l with
  | some i, some j => if i < j then -1 else if j < i then 1 else 0
  | _, _ => 0
theorem sayM_cases (l : List Bs) (x y : Bs) : sayM l x y = -1 ∨ sayM l x y = 0 ∨ sayM l x y = 1 := by
  unfold sayM
  split
  · split
    · exact .inl rfl
    · split
      · exact .inr (.inr rfl)
      · exact .inr (.inl rfl)
  · exact .inr (.inl rfl)
/-- which one stands ahead, by what base, left and right say -/
def aheadI (b l r : Int) : Int × Bool :=
  if b ≠ 0 then (if l = -b ∨ r = -b then (-b, true) else (b, true))
  else if l ≠ 0 ∧ r = -l then (0, false)
  else if l ≠ 0 then (l, true) else (r, true)
def aheadM (base left right : List Bs) (x y : Bs) : Int × Bool := aheadI (sayM base x y) (sayM left x y) (sayM right x y)
end Go.Proofs.YtfibmmmbpfnccaaGreatDoor
