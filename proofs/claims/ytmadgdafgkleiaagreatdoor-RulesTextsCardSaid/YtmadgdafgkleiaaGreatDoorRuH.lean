/-
  PLAIN MATHEMATICS: the document's rule of a line, without its line feed, is the program's with it.
-/
import Derived.Test.YtmadgdafgkleiaaGreatDoorRuY
namespace Go.Proofs.YtmadgdafgkleiaaGreatDoor
open Go.RowKit
def enD (s : Bs) : Nat := (endM (st s) 0).1
def paD (s : Bs) : Bs × Nat × Int := unquoteM (st (s.take (enD s)))
def keD (s : Bs) : Bs × Nat × Int := unquoteM (st (s.drop (enD s + 1)))
def ppD (s : Bs) : List Bs × Int := pparseM (paD s).1
def OneB (s : Bs) : Prop := (endM (st s) 0).2 = 0 ∧ enD s < s.length ∧ (keD s).2.2 = 0 ∧ (ppD s).2 = 0 ∧ lineM (ppD s).1 (keD s).1 = s ++ [10]
theorem cut_ten {s q r : Bs} (h : s ++ [10] = q ++ ([32] ++ r ++ [10])) : s = q ++ (32 :: r) := by
  have e : q ++ ([32] ++ r ++ [10]) = (q ++ (32 :: r)) ++ [10] := by simp
  rw [e] at h
  exact List.append_cancel_right h
theorem end_quoted {t r s : Bs} (hv : (valid (st t)).2 = true) (hs : s = (quoteM (st t)).1 ++ r) : endM (st s) 0 = ((quoteM (st t)).1.length, 0) := by
  obtain ⟨rs, _, h2⟩ := scan_at (st t) (st s) 0 hv ⟨r, by rw [st_list, List.drop_zero]; exact hs⟩
  unfold endM
  rw [if_neg (by omega), show ((0 : Int)).toNat = 0 from rfl, h2]
  simp only [Nat.zero_add]
theorem one_yes {s : Bs} (h : OneB s) : ruleM (s ++ [10]) = some ((ppD s).1, (keD s).1) := by
  obtain ⟨h1, h2, h3, h4, h5⟩ := h
  have hvk : (valid (st (keD s).1)).2 = true := (unquote_ok _ h3).2
  have hg : pgoodB (ppD s).1 = true := by
    by_cases hg : pgoodB (ppD s).1 = true
    · exact hg
    · have hv0 : (valid (st [])).2 = true := by kernel_rfl
      have hs : s = (quoteM (st ([] : Bs))).1 ++ (32 :: (quoteM (st (keD s).1)).1) := by
        refine cut_ten ?_
        rw [← h5]
        unfold lineM ptxM
        rw [if_neg hg]
        simp only [List.append_assoc]
      have he := end_quoted hv0 hs
      have ht : s.take (quoteM (st ([] : Bs))).1.length = (quoteM (st ([] : Bs))).1 := by
        have := List.take_left (l₁ := (quoteM (st ([] : Bs))).1) (l₂ := 32 :: (quoteM (st (keD s).1)).1)
        rw [← hs] at this
        exact this
      have hp : (ppD s).1 = [] := by
        unfold ppD paD enD
        rw [he]
        simp only
        rw [ht, unquote_quote _ hv0, st_list]
        kernel_rfl
      have h0 : pgoodB [] = true := by kernel_rfl
      rw [hp]
      exact h0
  rw [← h5]
  exact ruleM_line hg hvk
theorem one_no {s : Bs} (h : ¬ OneB s) : ruleM (s ++ [10]) = none := by
  cases hr : ruleM (s ++ [10]) with
  | none => rfl
  | some x =>
    obtain ⟨p, k⟩ := x
    exfalso
    apply h
    obtain ⟨h1, h2, h3⟩ := ruleM_some hr
    have hv := valid_ptext h1
    have hs : s = (quoteM (st (ptext p))).1 ++ (32 :: (quoteM (st k)).1) := by
      refine cut_ten ?_
      rw [← h3, lineM_eq h1]
    have he := end_quoted hv hs
    have ht : s.take (quoteM (st (ptext p))).1.length = (quoteM (st (ptext p))).1 := by
      have := List.take_left (l₁ := (quoteM (st (ptext p))).1) (l₂ := 32 :: (quoteM (st k)).1)
      rw [← hs] at this
      exact this
    have hd : s.drop ((quoteM (st (ptext p))).1.length + 1) = (quoteM (st k)).1 := by
      have := List.drop_left (l₁ := (quoteM (st (ptext p))).1 ++ [32]) (l₂ := (quoteM (st k)).1)
      rw [List.append_assoc, List.singleton_append, ← hs, List.length_append, List.length_singleton] at this
      exact this
    have hen : enD s = (quoteM (st (ptext p))).1.length := by unfold enD; rw [he]
    have hpa : (paD s).1 = ptext p := by
      unfold paD
      rw [hen, ht, unquote_quote _ hv, st_list]
    have hke : keD s = (k, (quoteM (st k)).1.length, 0) := by
      unfold keD
      rw [hen, hd, unquote_quote _ h2, st_list]
    have hpp : ppD s = (p, 0) := by
      unfold ppD
      rw [hpa, pparse_ptext h1]
    refine ⟨by rw [he], ?_, by rw [hke], by rw [hpp], by rw [hpp, hke]; exact h3⟩
    rw [hen, hs]
    simp
end Go.Proofs.YtmadgdafgkleiaaGreatDoor

