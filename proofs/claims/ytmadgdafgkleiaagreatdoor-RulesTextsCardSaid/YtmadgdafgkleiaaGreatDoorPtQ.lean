/-
  MATHEMATICS: the document's parser of paths.
-/
import Derived.Test.YtmadgdafgkleiaaGreatDoorPtR
namespace Go.Proofs.YtmadgdafgkleiaaGreatDoor
open Go.RowKit
def addL (L : List Bs) (b : UInt8) : List Bs := L.dropLast ++ [(L.getLast?.getD []) ++ [b]]
theorem addL_snoc (L : List Bs) (x : Bs) (b : UInt8) : addL (L ++ [x]) b = L ++ [x ++ [b]] := by unfold addL; simp
def rpM : Bs → List Bs → Option (List Bs)
  | [], L => some L
  | [b], L => if b = 126 then none else if b = 47 then some (L ++ [[]]) else some (addL L b)
  | a :: b :: r, L => if a = 126 then (if b = 48 then rpM r (addL L 126) else if b = 49 then rpM r (addL L 47) else none)
      else if a = 47 then rpM (b :: r) (L ++ [[]]) else rpM (b :: r) (addL L a)
theorem rpM_slash (r : Bs) (L : List Bs) : rpM (47 :: r) L = rpM r (L ++ [[]]) := by
  cases r with
  | nil => rfl
  | cons b r => rw [rpM, if_neg (by decide), if_pos rfl]
theorem rpM_byte {a : UInt8} (r : Bs) (L : List Bs) (h1 : a ≠ 126) (h2 : a ≠ 47) : rpM (a :: r) L = rpM r (addL L a) := by
  cases r with
  | nil => simp [rpM, h1, h2]
  | cons b r => rw [rpM, if_neg h1, if_neg h2]
theorem rpM_48 (r : Bs) (L : List Bs) : rpM (126 :: 48 :: r) L = rpM r (addL L 126) := by rw [rpM, if_pos rfl, if_pos rfl]
theorem rpM_49 (r : Bs) (L : List Bs) : rpM (126 :: 49 :: r) L = rpM r (addL L 47) := by rw [rpM, if_pos rfl, if_neg (by decide), if_pos rfl]
theorem rpM_none {b : UInt8} (r : Bs) (L : List Bs) (h1 : b ≠ 48) (h2 : b ≠ 49) : rpM (126 :: b :: r) L = none := by rw [rpM, if_pos rfl, if_neg h1, if_neg h2]
theorem rpM_end (L : List Bs) : rpM [126] L = none := by rw [rpM, if_pos rfl]
def onto (x : Bs) : List Bs → List Bs
  | [] => []
  | y :: l => (x ++ y) :: l
theorem onto_nil (l : List Bs) : onto [] l = l := by cases l <;> rfl
theorem rpM_is : ∀ (n : Nat) (u : Bs), u.length ≤ n → ∀ (L : List Bs) (x : Bs), rpM u (L ++ [x]) = if tildeOk u = true then some (L ++ onto x ((cutAt 47 u).map unesc)) else none
  | _, [], _, L, x => by
    rw [rpM, show tildeOk [] = true from rfl, if_pos rfl, cutAt, List.map_cons, show unesc [] = [] from rfl]
    simp [onto]
  | 0, b :: u, h, _, _ => by simp at h
  | n + 1, b :: u, h, L, x => by
    have hl : u.length ≤ n := by simpa using h
    by_cases h2 : b = 47
    · subst h2
      rw [rpM_slash, rpM_is n u hl (L ++ [x]) [], tildeOk_skip (by decide), cutAt, if_pos rfl, List.map_cons, show unesc [] = [] from rfl, onto_nil]
      simp [onto]
    · by_cases h1 : b = 126
      · subst h1
        cases u with
        | nil => rw [rpM_end, show tildeOk [126] = false from rfl, if_neg (by simp)]
        | cons c y =>
          have hyl : y.length ≤ n := by simp at hl; omega
          by_cases h3 : c = 48
          · subst h3
            obtain ⟨y1, l1, e1, e2⟩ := cutAt_cons 47 48 y (by decide)
            obtain ⟨y2, l2, e3, e4⟩ := cutAt_cons 47 126 (48 :: y) (by decide)
            rw [e2] at e3
            obtain ⟨rfl, rfl⟩ := List.cons.inj e3
            rw [rpM_48, addL_snoc, rpM_is n y hyl L (x ++ [126]), tildeOk_esc (.inl rfl), e4, e1, List.map_cons, List.map_cons, unesc_48]
            simp [onto]
          · by_cases h4 : c = 49
            · subst h4
              obtain ⟨y1, l1, e1, e2⟩ := cutAt_cons 47 49 y (by decide)
              obtain ⟨y2, l2, e3, e4⟩ := cutAt_cons 47 126 (49 :: y) (by decide)
              rw [e2] at e3
              obtain ⟨rfl, rfl⟩ := List.cons.inj e3
              rw [rpM_49, addL_snoc, rpM_is n y hyl L (x ++ [47]), tildeOk_esc (.inr rfl), e4, e1, List.map_cons, List.map_cons, unesc_49]
              simp [onto]
            · rw [rpM_none y _ h3 h4, if_neg (by rw [tildeOk]; simp [h3, h4])]
      · obtain ⟨y1, l1, e1, e2⟩ := cutAt_cons 47 b u h2
        rw [rpM_byte u _ h1 h2, addL_snoc, rpM_is n u hl L (x ++ [b]), tildeOk_skip h1, e2, e1, List.map_cons, List.map_cons, unesc_skip y1 h1]
        simp [onto]
theorem rpM_whole {s : Bs} (h : s = [] ∨ s.head? = some 47) : rpM s [] = if tildeOk s = true then some (if s = [] then [] else (cutAt 47 (s.drop 1)).map unesc) else none := by
  cases s with
  | nil => rfl
  | cons b r =>
    have hb : b = 47 := by rcases h with h | h; cases h; simpa using h
    subst hb
    have h1 := rpM_is r.length r (Nat.le_refl _) [] []
    rw [List.nil_append] at h1
    rw [rpM_slash, List.nil_append, h1, onto_nil, List.nil_append, tildeOk_skip (by decide), if_neg (by simp : ¬ (47 :: r) = []), List.drop_succ_cons, List.drop_zero]
theorem rp_len {s : Bs} {L : List Bs} (h : s = [] ∨ s.head? = some 47) (e : rpM s [] = some L) : L.length = s.count 47 := by
  rw [rpM_whole h] at e
  split at e
  · have e := Option.some.inj e
    subst e
    cases s with
    | nil => rfl
    | cons b r =>
      have hb : b = 47 := by rcases h with h | h; cases h; simpa using h
      subst hb
      rw [if_neg (by simp), List.length_map, List.drop_succ_cons, List.drop_zero, cutAt_length, List.count_cons_self]
  · cases e
theorem pparse_rp (s : Bs) : pparseM s = if (valid (st s)).2 = false ∨ (s ≠ [] ∧ s.head? ≠ some 47) then (([], 2) : List Bs × Int) else match rpM s [] with
    | none => ([], 2)
    | some L => if 64 < L.length then ([], 3) else (L, 0) := by
  unfold pparseM
  by_cases h1 : (valid (st s)).2 = false ∨ (s ≠ [] ∧ s.head? ≠ some 47)
  · rw [if_pos h1, if_pos h1]
  · rw [if_neg h1, if_neg h1]
    have hs : s = [] ∨ s.head? = some 47 := by
      by_cases e : s = []
      · exact .inl e
      · by_cases e2 : s.head? = some 47
        · exact .inr e2
        · exact absurd (.inr ⟨e, e2⟩) h1
    have hw := rpM_whole hs
    cases ht : tildeOk s with
    | false =>
      rw [ht, if_neg (by simp)] at hw
      rw [if_pos rfl, hw]
    | true =>
      rw [ht, if_pos rfl] at hw
      have hl := rp_len hs hw
      rw [if_neg (by simp), hw]
      simp only
      rw [hl]
      by_cases h64 : 64 < s.count 47
      · rw [if_pos h64, if_pos h64]
      · rw [if_neg h64, if_neg h64]
        by_cases e : s = []
        · rw [if_pos e, if_pos e]
        · rw [if_neg e, if_neg e]
end Go.Proofs.YtmadgdafgkleiaaGreatDoor

