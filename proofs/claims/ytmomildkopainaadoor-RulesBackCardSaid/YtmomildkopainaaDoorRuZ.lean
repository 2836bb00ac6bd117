/-
  WALKS: THE LAW RulesBack.
-/
import Derived.Test.YtmomildkopainaaDoorRuXK
import Derived.Test.YtmomildkopainaaDoorRuG
import Derived.Test.YtmomildkopainaaDoorRuS
namespace Go.Proofs.YtmomildkopainaaDoor
open Go.RowKit

theorem few_line {r : RU} (h : ShortL r.p.l ∧ r.k.length ≤ 1024) (hg : pgoodB r.p.l = true) : (lineM r.p.l r.k).length ≤ 792966 := by
  rw [lineM_eq hg]
  have h1 := quoteM_len (st (ptext r.p.l))
  have h2 := quoteM_len (st r.k)
  rw [st_size] at h1 h2
  have h3 := ptext_len 1024 r.p.l h.1.each
  have h4 := pgood_len hg
  have h5 : r.p.l.length * (2 * 1024 + 1) ≤ 64 * (2 * 1024 + 1) := Nat.mul_le_mul_right _ h4
  have h6 := h.2
  simp only [List.length_append, List.length_singleton]
  omega
theorem few_lines : ∀ (l : List RU), (∀ r ∈ l, (ShortL r.p.l ∧ r.k.length ≤ 1024) ∧ pgoodB r.p.l = true) → (linesB l).length ≤ l.length * 792966
  | [], _ => by simp [linesB]
  | r :: l, h => by
    rw [linesB_cons, List.length_append, List.length_cons, Nat.succ_mul]
    have h1 := few_line (h r (List.mem_cons_self ..)).1 (h r (List.mem_cons_self ..)).2
    have h2 := few_lines l (fun x hx => h x (List.mem_cons_of_mem _ hx))
    omega
theorem few_text {l : List RU} (h : FewL l) (hg : rgoodB l = true) : (linesB l).length ≤ 33554432 := by
  unfold rgoodB at hg
  rw [Bool.and_eq_true] at hg
  have hl := of_decide_eq_true hg.1
  have h1 := few_lines l (fun r hr => ⟨h.each r hr, by
    have := List.all_eq_true.1 hg.2 r hr
    rw [Bool.and_eq_true] at this
    exact this.2⟩)
  have h2 : l.length * 792966 ≤ 32 * 792966 := Nat.mul_le_mul_right _ hl
  omega
theorem few_sht {l : List RU} (h : FewL l) : ShtR l := fun r hr => ⟨fun x hx => Nat.le_trans ((h.each r hr).1.each x hx) (by omega), Nat.le_trans (h.each r hr).2 (by omega)⟩
theorem ruleM_sht {s : Bs} {p : List Bs} {k : Bs} (h : ruleM s = some (p, k)) (hs : s.length ≤ 33554432) : Sht p ∧ k.length ≤ 134217728 := by
  unfold ruleM at h
  split at h
  · cases h
  · split at h
    · cases h
    · split at h
      · cases h
      · split at h
        · have h5 := Option.some.inj h
          have hp := (Prod.mk.inj h5).1
          have hk := (Prod.mk.inj h5).2
          have h1 := unquote_len (st (s.take (endM (st s) 0).1))
          have h2 := unquote_len (st (trimSL (s.drop (endM (st s) 0).1)))
          rw [st_size] at h1 h2
          have h3 : (s.take (endM (st s) 0).1).length ≤ s.length := by rw [List.length_take]; omega
          have h4 : (trimSL (s.drop (endM (st s) 0).1)).length ≤ s.length := by
            have a := trimLs_len (trimRs (s.drop (endM (st s) 0).1))
            have b := trimRs_len (s.drop (endM (st s) 0).1)
            have c : (s.drop (endM (st s) 0).1).length ≤ s.length := by rw [List.length_drop]; omega
            unfold trimSL
            omega
          rw [← hp, ← hk]
          exact ⟨pparse_sht _ (by omega), by omega⟩
        · cases h
theorem rparse_sht : ∀ (f : Nat) (s : Bs) (acc : List (List Bs × Bs)) (L : List (List Bs × Bs)) (n : Nat) (e : Int), rparseGo f s acc = (L, n, e) → s.length ≤ 33554432 → (∀ r ∈ acc, Sht r.1 ∧ r.2.length ≤ 134217728) → ∀ r ∈ L, Sht r.1 ∧ r.2.length ≤ 134217728
  | 0, s, acc, L, n, e, h, _, ha => by
    have h1 := (Prod.mk.inj h).1
    rw [← h1]; exact ha
  | f + 1, s, acc, L, n, e, h, hs, ha => by
    rw [rparseGo] at h
    split at h
    · rw [← (Prod.mk.inj h).1]; exact ha
    · split at h
      · rw [← (Prod.mk.inj h).1]; intro r hr; cases hr
      · split at h
        · rw [← (Prod.mk.inj h).1]; intro r hr; cases hr
        · rename_i _ _ _ r hr
          obtain ⟨p, k⟩ := r
          refine rparse_sht f _ _ L n e h (by rw [List.length_drop]; omega) (fun r hx => ?_)
          rcases List.mem_append.1 hx with hx | hx
          · exact ha r hx
          · rw [List.mem_singleton.1 hx]
            exact ruleM_sht hr (by rw [List.length_take]; omega)
theorem parsed_sht {s : Bs} {l : List RU} {n : Nat} {e : Int} (h : rparseM s = (l.map RU.m, n, e)) (hs : s.length ≤ 33554432) : ShtR l := fun r hr =>
  rparse_sht _ s [] _ n e h hs (fun x hx => by cases hx) r.m (List.mem_map_of_mem hr)
def BackPost (W : World) (e : Ending) (W' : World) : Prop := e = .returned (.bool true) ∧ Below W.heap.size W W'
set_option maxHeartbeats 8000000 in
set_option maxRecDepth 1000000 in
theorem back_law (o : Option Addr) (cap : Nat) (l : List RU) (s : Bs) (W : World) (hT : tabs W) (hM : mx W) (h : RulesOk W o cap l) (hs : s.length ≤ maxLen) :
    Calls Tryd.prog 5 #[.slice o l.length cap, .string (st s)] W (BackPost W) := by
  have HRU := hq h
  have hpc := h.le
  have hpm := h.cp
  unfold maxLen at hpm hs
  have HTM := hq (And.intro hT hM)
  have HSM := hq (rsmall_any W hT hM)
  have HP : Hq (∀ W', Below W.heap.size W W' → BackPost W (.returned (.bool true)) W') := hq (fun W' h2 => ⟨rfl, h2⟩)
  generalize BackPost W = PP at *
  clear hT hM h
  go_enter Tryd.func5, Tryd.ntmps5
  go_wp2_with fail
  refine HSM.o.mono ?_
  rintro e w1 ⟨rfl, hb1⟩
  have HB1 := hq hb1
  clear HSM hb1
  go_wp2_with fail
  refine (few_any o cap l w1 (HRU.o.grow HB1.o)).mono ?_
  rintro e w2 ⟨⟨v, rfl, hF⟩, hw⟩
  obtain rfl := hw.symm
  have HV := hq (HP.o w1 HB1.o)
  cases v with
  | false =>
    clear hF
    go_wp2_with fail
    first | exact HV.o | (go_ret; exact HV.o)
  | true =>
    have HF := hq (hF rfl)
    clear hF
    by_cases h4 : 4096 < s.length
    · have hz : (4096 : Int) < (s.length : Int) := by omega
      go_wp2_with fail
      first | exact HV.o | (go_ret; exact HV.o)
    · have hz : ¬ (4096 : Int) < (s.length : Int) := by omega
      clear HV
      go_wp2_with fail
      have HPT := hq (print_any o cap l w1 (tabs_grow HTM.o.1 HB1.o) (mx_grow HTM.o.2 HB1.o) (HRU.o.grow HB1.o) (few_sht HF.o))
      unfold PtxPost at HPT
      cases hg : rgoodB l with
      | false =>
        have hpr : printM l = ([], 1) := by unfold printM; rw [if_neg (by rw [hg]; simp)]
        rw [hpr] at HPT
        simp only at HPT
        refine HPT.o.mono ?_
        rintro e w3 ⟨rfl, hb3⟩
        have HB3 := hq (below_trans HB1.o hb3)
        clear hb3 HPT hpr
        go_wp2_with fail
        have HRI := hq (rright_any o cap l w3 (tabs_grow HTM.o.1 HB3.o) (HRU.o.grow HB3.o))
        unfold BoolPost at HRI
        rw [hg] at HRI
        refine HRI.o.mono ?_
        rintro e w4 ⟨rfl, hb4⟩
        have HB4 := hq (below_trans HB3.o hb4)
        clear hb4 HRI HB3 hg
        go_wp2_with fail
        refine (rparse_any s w4 (tabs_grow HTM.o.1 HB4.o) (mx_grow HTM.o.2 HB4.o) (by omega)).mono ?_
        rintro e wP ⟨l2, o2, c2, rfl, hown, hl2, hbP⟩
        generalize hX : rparseM s = X at *
        obtain ⟨L, n, er⟩ := X
        simp only at hl2 ⊢
        have HBP := hq (below_trans HB4.o hbP)
        by_cases he : er = 0
        · subst he
          have hr : rparseM s = (l2.map RU.m, n, 0) := by rw [hX, hl2]
          obtain ⟨hp1, hp2, hp3⟩ := print_rparse hr
          have hok := hown.ok (parsed_sht hr (by omega))
          have HPR := hq (print_any o2 c2 l2 wP (tabs_grow HTM.o.1 HBP.o) (mx_grow HTM.o.2 HBP.o) hok (parsed_sht hr (by omega)))
          unfold PtxPost at HPR
          rw [hp1] at HPR
          simp only at HPR
          subst hp2
          clear hown hl2 hbP hX hr hp1 hok HTM HRU HF
          go_wp2_with fail
          refine HPR.o.mono ?_
          rintro e wQ ⟨rfl, hbQ⟩
          have HV := hq (HP.o _ (below_trans HBP.o hbQ))
          clear HPR hbQ HP HBP
          go_wp2_with fail
          first | exact HV.o | (go_ret; exact HV.o)
        · obtain ⟨h1, h2⟩ := rparse_fail hX he
          subst h1
          have hl0 : l2 = [] := List.map_eq_nil_iff.1 hl2
          subst hl0
          have e1 : (er == 0) = false := beq_eq_false_iff_ne.2 he
          have e1' : (er != 0) = true := by rw [bne, e1]; rfl
          have hn1 : (n : Int) ≤ 32 := by omega
          have hn0 : (0 : Int) ≤ (n : Int) := by omega
          have HV := hq (HP.o _ HBP.o)
          clear hown hl2 hbP hX HTM HRU HF HP HBP
          go_wp2_with fail
          first | exact HV.o | (go_ret; exact HV.o)
      | true =>
        have hpr : printM l = (linesB l, 0) := by unfold printM; rw [if_pos hg]
        rw [hpr] at HPT
        simp only at HPT
        refine HPT.o.mono ?_
        rintro e w3 ⟨rfl, hb3⟩
        have HB3 := hq (below_trans HB1.o hb3)
        clear hb3 HPT hpr
        have HRI := hq (rright_any o cap l w3 (tabs_grow HTM.o.1 HB3.o) (HRU.o.grow HB3.o))
        unfold BoolPost at HRI
        rw [hg] at HRI
        have hbk := rparse_print hg
        have hft := few_text HF.o hg
        have HBK := hq hbk
        have HFT := hq hft
        generalize linesB l = tx at *
        clear hbk hft
        go_wp2_with fail
        refine HRI.o.mono ?_
        rintro e w4 ⟨rfl, hb4⟩
        have HB4 := hq (below_trans HB3.o hb4)
        clear hb4 HRI HB3 hg
        go_wp2_with fail
        refine (rparse_any tx w4 (tabs_grow HTM.o.1 HB4.o) (mx_grow HTM.o.2 HB4.o) HFT.o).mono ?_
        rintro e w5 ⟨l1, o1, c1, rfl, hown1, hl1, hb5⟩
        have HB5 := hq (below_trans HB4.o hb5)
        have hx := HBK.o
        rw [hx] at hl1 ⊢
        simp only at hl1 ⊢
        have hok1 := hown1.ok (parsed_sht (hx.trans (by rw [hl1])) HFT.o)
        have HSA := hq (rsameR_any o o1 cap c1 l l1 w5 (HRU.o.grow HB5.o) hok1)
        unfold BoolPost at HSA
        rw [decide_eq_true hl1.symm] at HSA
        clear hb5 hx hl1 hown1 hok1 HBK HFT HB4
        go_wp2_with fail
        refine HSA.o.mono ?_
        rintro e w6 ⟨rfl, hb6⟩
        have HB6 := hq (below_trans HB5.o hb6)
        clear hb6 HSA HB5
        go_wp2_with fail
        refine (rparse_any s w6 (tabs_grow HTM.o.1 HB6.o) (mx_grow HTM.o.2 HB6.o) (by omega)).mono ?_
        rintro e wP ⟨l2, o2, c2, rfl, hown, hl2, hbP⟩
        generalize hX : rparseM s = X at *
        obtain ⟨L, n, er⟩ := X
        simp only at hl2 ⊢
        have HBP := hq (below_trans HB6.o hbP)
        by_cases he : er = 0
        · subst he
          have hr : rparseM s = (l2.map RU.m, n, 0) := by rw [hX, hl2]
          obtain ⟨hp1, hp2, hp3⟩ := print_rparse hr
          have hok := hown.ok (parsed_sht hr (by omega))
          have HPR := hq (print_any o2 c2 l2 wP (tabs_grow HTM.o.1 HBP.o) (mx_grow HTM.o.2 HBP.o) hok (parsed_sht hr (by omega)))
          unfold PtxPost at HPR
          rw [hp1] at HPR
          simp only at HPR
          subst hp2
          clear hown hl2 hbP hX hr hp1 hok HTM HRU HF
          go_wp2_with fail
          refine HPR.o.mono ?_
          rintro e wQ ⟨rfl, hbQ⟩
          have HV := hq (HP.o _ (below_trans HBP.o hbQ))
          clear HPR hbQ HP HBP
          go_wp2_with fail
          first | exact HV.o | (go_ret; exact HV.o)
        · obtain ⟨h1, h2⟩ := rparse_fail hX he
          subst h1
          have hl0 : l2 = [] := List.map_eq_nil_iff.1 hl2
          subst hl0
          have e1 : (er == 0) = false := beq_eq_false_iff_ne.2 he
          have e1' : (er != 0) = true := by rw [bne, e1]; rfl
          have hn1 : (n : Int) ≤ 32 := by omega
          have hn0 : (0 : Int) ≤ (n : Int) := by omega
          have HV := hq (HP.o _ HBP.o)
          clear hown hl2 hbP hX HTM HRU HF HP HBP
          go_wp2_with fail
          first | exact HV.o | (go_ret; exact HV.o)
end Go.Proofs.YtmomildkopainaaDoor
