/-
  MATHEMATICS: rules as texts and back.
  MATHEMATICS: a text that is read comes back from its rules.
-/
import Derived.Test.YtmadgdafgkleiaaGreatDoorRuQ
import Derived.Test.YtmadgdafgkleiaaGreatDoorPtR
namespace Go.Proofs.YtmadgdafgkleiaaGreatDoor
open Go.RowKit
theorem quoteL {k : Bs} (h : (valid (st k)).2 = true) : (quoteM (st k)).1 = 34 :: quoteB k ++ [34] := by rw [quoteM_yes h, st_list]
theorem trim_mid (q : Bs) : trimSL ([32] ++ (34 :: q ++ [34]) ++ [10]) = 34 :: q ++ [34] := by
  unfold trimSL
  rw [trimRs_snoc, if_pos (by rfl), ← List.append_assoc, trimRs_snoc, if_neg (by decide)]
  unfold trimLs
  show List.dropWhile isSL (32 :: 34 :: (q ++ [34])) = _
  rw [List.dropWhile_cons, if_pos (by rfl), List.dropWhile_cons, if_neg (by decide)]
  rfl
theorem lineM_eq {p : List Bs} {k : Bs} (hp : pgoodB p = true) : lineM p k = (quoteM (st (ptext p))).1 ++ ([32] ++ (quoteM (st k)).1 ++ [10]) := by
  unfold lineM ptxM
  rw [if_pos hp]
  simp only [List.append_assoc]
theorem ruleM_line {p : List Bs} {k : Bs} (hp : pgoodB p = true) (hk : (valid (st k)).2 = true) : ruleM (lineM p k) = some (p, k) := by
  have hv := valid_ptext hp
  have hs := lineM_eq (k := k) hp
  have hq1 := unquote_quote (st (ptext p)) hv
  have hq2 := unquote_quote (st k) hk
  rw [st_list] at hq1 hq2
  have he : endM (st (lineM p k)) 0 = ((quoteM (st (ptext p))).1.length, 0) := by
    obtain ⟨rs, _, h2⟩ := scan_at (st (ptext p)) (st (lineM p k)) 0 hv ⟨[32] ++ (quoteM (st k)).1 ++ [10], by rw [st_list, List.drop_zero, hs]⟩
    unfold endM
    rw [if_neg (by omega), show ((0 : Int)).toNat = 0 from rfl, h2]
    simp only [Nat.zero_add]
  have ht : (lineM p k).take (quoteM (st (ptext p))).1.length = (quoteM (st (ptext p))).1 := by rw [hs, List.take_left]
  have hd : trimSL ((lineM p k).drop (quoteM (st (ptext p))).1.length) = (quoteM (st k)).1 := by rw [hs, List.drop_left, quoteL hk]; exact trim_mid _
  unfold ruleM
  rw [he]
  simp only
  rw [ht, hd, hq1, hq2]
  simp only
  rw [pparse_ptext hp]
  simp
theorem lineEnd_at (A rest : Bs) (h : 10 ∉ A) : lineEnd (A ++ 10 :: rest) = A.length + 1 := by
  have hc := cutAt_app 10 A h rest
  unfold lineEnd
  rcases indexByte_cut 10 (A ++ 10 :: rest) with ⟨_, h2⟩ | ⟨i, hi, h1, h2⟩
  · rw [hc] at h2
    injection h2 with _ h3
    exact absurd h3 (cutAt_ne 10 rest)
  · rw [hc] at h2
    injection h2 with h3 _
    have hl := congrArg List.length h3
    rw [List.length_take] at hl
    rw [h1]
    omega
end Go.Proofs.YtmadgdafgkleiaaGreatDoor

namespace Go.Proofs.YtmadgdafgkleiaaGreatDoor
open Go.RowKit
theorem ruleM_some {s : Bs} {p : List Bs} {k : Bs} (h : ruleM s = some (p, k)) : pgoodB p = true ∧ (valid (st k)).2 = true ∧ lineM p k = s := by
  unfold ruleM at h
  split at h
  · cases h
  · split at h
    · cases h
    · split at h
      · cases h
      · rename_i h1 h2 h3
        split at h
        · rename_i h4
          have h5 := Option.some.inj h
          have hp := (Prod.mk.inj h5).1
          have hk := (Prod.mk.inj h5).2
          rw [hp, hk] at h4
          have h30 : (unquoteM (st (trimSL (s.drop (endM (st s) 0).1)))).2.2 = 0 := Classical.not_not.1 h3
          have hvk := (unquote_ok _ h30).2
          rw [hk] at hvk
          refine ⟨?_, hvk, h4⟩
          by_cases hg : pgoodB p = true
          · exact hg
          · have hv0 : (valid (st [])).2 = true := by kernel_rfl
            have hq : (quoteM (st ([] : Bs))).1 = [34, 34] := by kernel_rfl
            have hs : s = (quoteM (st ([] : Bs))).1 ++ ([32] ++ (quoteM (st k)).1 ++ [10]) := by
              rw [← h4]
              unfold lineM ptxM
              rw [if_neg hg]
              simp only [List.append_assoc]
            have he : endM (st s) 0 = ((quoteM (st ([] : Bs))).1.length, 0) := by
              obtain ⟨rs, _, h2⟩ := scan_at (st ([] : Bs)) (st s) 0 hv0 ⟨[32] ++ (quoteM (st k)).1 ++ [10], by rw [st_list, List.drop_zero]; exact hs⟩
              unfold endM
              rw [if_neg (by omega), show ((0 : Int)).toNat = 0 from rfl, h2]
              simp only [Nat.zero_add]
            have ht : s.take (quoteM (st ([] : Bs))).1.length = (quoteM (st ([] : Bs))).1 := by
              have := List.take_left (l₁ := (quoteM (st ([] : Bs))).1) (l₂ := [32] ++ (quoteM (st k)).1 ++ [10])
              rw [← hs] at this
              exact this
            rw [he] at hp
            simp only at hp
            rw [ht, unquote_quote _ hv0, st_list] at hp
            simp only at hp
            have hn : (pparseM []).1 = [] := by kernel_rfl
            rw [hn] at hp
            rw [← hp]
            have h0 : pgoodB [] = true := by kernel_rfl
            exact h0
        · cases h
end Go.Proofs.YtmadgdafgkleiaaGreatDoor

