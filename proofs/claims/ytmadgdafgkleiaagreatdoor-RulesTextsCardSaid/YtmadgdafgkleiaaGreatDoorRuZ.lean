/-
  WALKS: THE LAW RulesBack.
-/
import Derived.Test.YtmadgdafgkleiaaGreatDoorRuY
import Derived.Test.YtmadgdafgkleiaaGreatDoorRuG
import Derived.Test.YtmadgdafgkleiaaGreatDoorRuS
namespace Go.Proofs.YtmadgdafgkleiaaGreatDoor
open Go.RowKit
theorem few_sht {l : List RU} (h : FewL l) : ShtR l := fun r hr => ⟨fun x hx => Nat.le_trans ((h.each r hr).1.each x hx) (by omega), Nat.le_trans (h.each r hr).2 (by omega)⟩
theorem ruleM_sht {s : Bs} {p : List Bs} {k : Bs} (h : ruleM s = some (p, k)) (hs : s.length ≤ 33554432) : ShtT p ∧ k.length ≤ 134217728 := by
  unfold ruleM at h
  split at h
  · cases h
  · split at h
    · cases h
    · split at h
      · cases h
      · split at h
        · have h5 := Option.some.inj h
          have hp := (Prod.mk.inj h5).1
          have hk := (Prod.mk.inj h5).2
          have h1 := unquote_len (st (s.take (endM (st s) 0).1))
          have h2 := unquote_len (st (trimSL (s.drop (endM (st s) 0).1)))
          rw [st_size] at h1 h2
          have h3 : (s.take (endM (st s) 0).1).length ≤ s.length := by rw [List.length_take]; omega
          have h4 : (trimSL (s.drop (endM (st s) 0).1)).length ≤ s.length := by
            have a := trimLs_len (trimRs (s.drop (endM (st s) 0).1))
            have b := trimRs_len (s.drop (endM (st s) 0).1)
            have c : (s.drop (endM (st s) 0).1).length ≤ s.length := by rw [List.length_drop]; omega
            unfold trimSL
            omega
          rw [← hp, ← hk]
          exact ⟨pparse_sht _ (by omega), by omega⟩
        · cases h
theorem rparse_sht : ∀ (f : Nat) (s : Bs) (acc : List (List Bs × Bs)) (L : List (List Bs × Bs)) (n : Nat) (e : Int), rparseGo f s acc = (L, n, e) → s.length ≤ 33554432 → (∀ r ∈ acc, ShtT r.1 ∧ r.2.length ≤ 134217728) → ∀ r ∈ L, ShtT r.1 ∧ r.2.length ≤ 134217728
  | 0, s, acc, L, n, e, h, _, ha => by
    have h1 := (Prod.mk.inj h).1
    rw [← h1]; exact ha
  | f + 1, s, acc, L, n, e, h, hs, ha => by
    rw [rparseGo] at h
    split at h
    · rw [← (Prod.mk.inj h).1]; exact ha
    · split at h
      · rw [← (Prod.mk.inj h).1]; intro r hr; cases hr
      · split at h
        · rw [← (Prod.mk.inj h).1]; intro r hr; cases hr
        · rename_i _ _ _ r hr
          obtain ⟨p, k⟩ := r
          refine rparse_sht f _ _ L n e h (by rw [List.length_drop]; omega) (fun r hx => ?_)
          rcases List.mem_append.1 hx with hx | hx
          · exact ha r hx
          · rw [List.mem_singleton.1 hx]
            exact ruleM_sht hr (by rw [List.length_take]; omega)
theorem parsed_sht {s : Bs} {l : List RU} {n : Nat} {e : Int} (h : ruparseM s = (l.map RU.m, n, e)) (hs : s.length ≤ 33554432) : ShtR l := fun r hr =>
  rparse_sht _ s [] _ n e h hs (fun x hx => by cases hx) r.m (List.mem_map_of_mem hr)
def BackPost (W : World) (e : Ending) (W' : World) : Prop := e = .returned (.bool true) ∧ Below W.heap.size W W'
end Go.Proofs.YtmadgdafgkleiaaGreatDoor

