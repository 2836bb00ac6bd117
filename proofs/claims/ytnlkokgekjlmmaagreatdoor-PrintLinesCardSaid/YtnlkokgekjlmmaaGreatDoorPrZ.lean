/-
  WALK: the law PrintLines, over its small case.
-/
import Derived.Test.YtnlkokgekjlmmaaGreatDoorPrY
import Derived.Test.YtnlkokgekjlmmaaGreatDoorPrN
namespace Go.Proofs.YtnlkokgekjlmmaaGreatDoor
open Go.RowKit

theorem cnt_take {A : ByteArray} {k : Nat} (h : k < A.size) : (A.data.toList.take (k + 1)).count 10 = (A.data.toList.take k).count 10 + (if A[k] = 10 then 1 else 0) := by
  have hl : k < A.data.toList.length := by rw [Array.length_toList]; exact h
  rw [List.take_succ_eq_append_getElem hl, List.count_append]
  congr 1
  have e : A.data.toList[k] = A[k] := rfl
  rw [e]
  by_cases h10 : A[k] = 10
  · rw [if_pos h10, h10]; rfl
  · rw [if_neg h10, List.count_cons_of_ne (by simpa using h10)]; rfl
theorem pretty_ok {v : Vl} {i lv : Int} (h : (prettyM v i lv).2 = 0) : rightM v = true ∧ (prettyM v i lv).1 = prB true i.toNat lv.toNat v ∧ i.toNat ≤ 8 ∧ lv.toNat ≤ 32 := by
  unfold prettyM at h ⊢
  by_cases hc : rightM v = true ∧ 0 ≤ i ∧ i ≤ 8 ∧ 0 ≤ lv ∧ lv ≤ 32
  · rw [if_pos hc]; exact ⟨hc.1, rfl, by omega, by omega⟩
  · rw [if_neg hc] at h; cases h
theorem pretty_no {v : Vl} {i lv : Int} (h : ¬ (prettyM v i lv).2 = 0) : (prettyM v i lv).1 = [] ∧ (prettyM v i lv).2 = 1 ∧ (rightM v = false ∨ i < 0 ∨ 8 < i ∨ lv < 0 ∨ 32 < lv) := by
  unfold prettyM at h ⊢
  by_cases hc : rightM v = true ∧ 0 ≤ i ∧ i ≤ 8 ∧ 0 ≤ lv ∧ lv ≤ 32
  · rw [if_pos hc] at h; exact absurd rfl h
  · rw [if_neg hc]
    refine ⟨rfl, rfl, ?_⟩
    cases hr : rightM v with
    | false => exact .inl rfl
    | true =>
      rw [hr] at hc
      have h : ¬ (0 ≤ i ∧ i ≤ 8 ∧ 0 ≤ lv ∧ lv ≤ 32) := fun h => hc ⟨rfl, h⟩
      omega
set_option maxHeartbeats 16000000 in
set_option maxRecDepth 1000000 in
theorem plines_law (x : Vt) (i lv : Int) (w : World) (hE : Env w) (hx : x.Ok w) (hsm : ∀ V, Below w.heap.size w V → Calls Tryz.prog 13 #[] V (BPost true V)) :
    Calls Tryz.prog 5 #[x.v, .int .i64 i, .int .i64 lv] w (BPost true w) := by
  have HSM := hq hsm
  have HFX := hq (fun V (hV : Below w.heap.size w V) => few1_any x 300 V (hx.grow hV) (by decide))
  have hpr : ∀ (hf : FewV x.m 300) V (hV : Below w.heap.size w V), Pri x V := fun hf V hV => few_pri (hx.grow hV) hf (by decide)
  have HC1 := hq (fun (hf : FewV x.m 300) V (hV : Below w.heap.size w V) => pcompact x V (hE.grow hV) (hpr hf V hV))
  have HC3 := hq (fun (hf : FewV x.m 300) V (hV : Below w.heap.size w V) => ppretty x i lv V (hE.grow hV) (hpr hf V hV))
  have HSZ := hq (fun (hf : FewV x.m 300) V (hV : Below w.heap.size w V) => vsize_any x V (hx.grow hV) (Nat.le_trans (Nat.le_trans x.m.size_weight hf.wt) (by decide)))
  have HZ : Hq (FewV x.m 300 → x.m.size ≤ 300) := hq (fun hf => Nat.le_trans x.m.size_weight hf.wt)
  -- what the texts are
  have HOK : Hq (∀ (hf : FewV x.m 300), (prettyM x.m i lv).2 = 0 → (compactM x.m).2 = 0 ∧ (prettyM x.m i lv).1.length ≤ 900000000 ∧ bareM false (prettyM x.m i lv).1 = (compactM x.m).1 ∧ bareM false (prettyM x.m i lv).1 ≠ [] ∧ (prettyM x.m i lv).1.count 10 ≤ 2 * x.m.size ∧ ((prettyM x.m i lv).1.count 10 = 0 ↔ x.m.is = [])) := hq (fun hf h => by
    obtain ⟨hr, h1, h2, h3⟩ := pretty_ok h
    have hg := right_rgt hr
    have hbr := prB_bare i.toNat x.m hg lv.toNat []
    rw [List.append_nil, show bareM false [] = [] by rw [bareM], List.append_nil, prB_lev i.toNat 0 x.m lv.toNat 0] at hbr
    have hln := prB_lines i.toNat x.m hg lv.toNat
    have hlen := prB_len true i.toNat h2 x.m hf.sh lv.toNat (by have := hf.dp; omega)
    have hsz := Nat.le_trans x.m.size_weight hf.wt
    have hcm : compactM x.m = (prB false 0 0 x.m, 0) := if_pos hr
    rw [h1, hcm]
    exact ⟨rfl, by omega, hbr, by rw [hbr]; exact prB_ne false 0 0 hr, by omega, hln.2⟩)
  have HNO : Hq (¬ (prettyM x.m i lv).2 = 0 → (prettyM x.m i lv).1 = [] ∧ (prettyM x.m i lv).2 = 1 ∧ ((compactM x.m).2 = 1 ∨ ((compactM x.m).2 = 0 ∧ (i < 0 ∨ 8 < i ∨ lv < 0 ∨ 32 < lv)))) := hq (fun h => by
    obtain ⟨h1, h2, h3⟩ := pretty_no h
    refine ⟨h1, h2, ?_⟩
    unfold compactM
    cases hr : rightM x.m with
    | false => exact .inl rfl
    | true => exact .inr ⟨rfl, h3.resolve_left (by rw [hr]; decide)⟩)
  have HIS : Hq (x.m.is = [] ↔ x.is.length = 0) := hq (by
    obtain ⟨k, t, ks, o, c, is⟩ := x
    rw [Vt.m_mk]
    show is.map Vt.m = [] ↔ is.length = 0
    rw [List.map_eq_nil_iff, List.length_eq_zero_iff])
  clear hpr
  have HP : Hq (∀ W', Below w.heap.size w W' → BPost true w (.returned (.bool true)) W') := hq (fun W' h => ⟨rfl, h⟩)
  generalize BPost true w = PP at *
  generalize compactM x.m = P1 at *
  generalize prettyM x.m i lv = P3 at *
  generalize x.m.size = sz at *
  clear hE hx hsm
  obtain ⟨k, t, ⟨ko, kc, kl⟩, o, c, is⟩ := x
  rw [Vt.v_mk'] at *
  generalize (Vt.mk k t ⟨ko, kc, kl⟩ o c is).m = MX at *
  obtain ⟨s1, e1⟩ := P1
  obtain ⟨s3, e3⟩ := P3
  simp only at HOK HNO HIS
  have hb0 := below_alloc w (.cells #[.int .i64 k, .string (st t), .slice ko kl.length kc, .slice o is.length c] 25)
  have HB0 := hq hb0
  have HW0 := hq (Whole.made w 25 #[.int .i64 k, .string (st t), .slice ko kl.length kc, .slice o is.length c])
  clear hb0
  go_enter Tryz.func5, Tryz.ntmps5
  go_upto_region 1 with fail
  generalize w.heap.size = g at HW0
  generalize (w.alloc (.cells #[.int .i64 k, .string (st t), .slice ko kl.length kc, .slice o is.length c] 25)) = V0 at *
  have hVC := hq (fun wr (hb : Below V0.heap.size V0 wr) => HW0.o.grow hb)
  clear HW0
  have HV0 := hq (Below.refl V0.heap.size V0)
  obtain ⟨a0, a1, a2, a3⟩ := four_cells (hVC.o V0 HV0.o)
  go_wp2_with fail
  refine (HSM.o V0 HB0.o).mono ?_
  rintro e w1 ⟨rfl, hb⟩
  have HV1 := hq (below_trans HV0.o hb)
  have HB1 := hq (below_trans HB0.o hb)
  clear hb HV0 HB0 a0 a1 a2 a3 HSM
  obtain ⟨a0, a1, a2, a3⟩ := four_cells (hVC.o w1 HV1.o)
  go_wp2_with fail
  refine (HFX.o w1 HB1.o).mono ?_
  rintro e w2 ⟨fx, rfl, hfx, hb⟩
  have HV2 := hq (below_trans HV1.o hb)
  have HB2 := hq (below_trans HB1.o hb)
  clear hb HV1 HB1 a0 a1 a2 a3 HFX
  obtain ⟨a0, a1, a2, a3⟩ := four_cells (hVC.o w2 HV2.o)
  have HHX := hq hfx
  clear hfx
  cases fx with
  | false =>
    have HV := hq (HP.o w2 HB2.o)
    clear HP HC1 HC3 HSZ HZ HOK HNO HIS HHX
    go_wp2_with fail
    first
      | exact HV.o
      | (go_ret
         exact HV.o)
      | trace_state
  | true =>
  have HF := hq (HHX.o rfl)
  clear HHX
  have HC1' := hq (HC1.o HF.o)
  have HC3' := hq (HC3.o HF.o)
  have HSZ' := hq (HSZ.o HF.o)
  have HOK' := hq (HOK.o HF.o)
  have hz := HZ.o HF.o
  clear HC1 HC3 HSZ HOK HF HZ
  go_wp2_with fail
  refine (HC3'.o w2 HB2.o).mono ?_
  rintro e w3 ⟨rfl, hb⟩
  have HV3 := hq (below_trans HV2.o hb)
  have HB3 := hq (below_trans HB2.o hb)
  clear hb HV2 HB2 a0 a1 a2 a3 HC3'
  obtain ⟨a0, a1, a2, a3⟩ := four_cells (hVC.o w3 HV3.o)
  go_wp2_with fail
  refine (HC1'.o w3 HB3.o).mono ?_
  rintro e w4 ⟨rfl, hb⟩
  have HV4 := hq (below_trans HV3.o hb)
  have HB4 := hq (below_trans HB3.o hb)
  clear hb HV3 HB3 a0 a1 a2 a3 HC1'
  obtain ⟨a0, a1, a2, a3⟩ := four_cells (hVC.o w4 HV4.o)
  by_cases he3 : e3 = 0
  case neg =>
    obtain ⟨h1, h2, h3⟩ := HNO.o he3
    subst h1
    subst h2
    have HV := hq (HP.o w4 HB4.o)
    clear HP HNO HOK' HSZ' HIS he3
    rcases h3 with rfl | ⟨rfl, h3⟩
    · go_wp2_with fail
      first
        | exact HV.o
        | (go_ret
           exact HV.o)
        | trace_state
    · have hcs : i < 0 ∨ (0 ≤ i ∧ 8 < i) ∨ (0 ≤ i ∧ i ≤ 8 ∧ lv < 0) ∨ (0 ≤ i ∧ i ≤ 8 ∧ 0 ≤ lv ∧ 32 < lv) := by omega
      clear h3
      rcases hcs with h1 | ⟨h1, h2⟩ | ⟨h1, h2, h3⟩ | ⟨h1, h2, h3, h4⟩
      all_goals
        (try have d1 : decide (i < 0) = false := decide_eq_false (by omega))
        (try have d2 : decide (8 < i) = false := decide_eq_false (by omega))
        (try have d3 : decide (lv < 0) = false := decide_eq_false (by omega))
        (try have d5 : decide (i < 0) = true := decide_eq_true (by omega))
        (try have d6 : decide (8 < i) = true := decide_eq_true (by omega))
        (try have d7 : decide (lv < 0) = true := decide_eq_true (by omega))
        (try have d8 : decide (32 < lv) = true := decide_eq_true (by omega))
        go_wp2_with fail
        first
          | exact HV.o
          | (go_ret
             exact HV.o)
          | trace_state
  case pos =>
  obtain ⟨h1, h2, h3, h4, h5, h6⟩ := HOK'.o he3
  subst he3
  subst h1
  have HBA := hq (fun W => bare_any s3 W (by omega) h4)
  rw [h3] at HBA
  have HIS2 : Hq (s3.count 10 = 0 ↔ is.length = 0) := hq (h6.trans HIS.o)
  have hs3 : s3.length ≤ 900000000 := h2
  have hA1 : (st s3).data.toList = s3 := st_list s3
  have hA2 : (st s3).size = s3.length := st_size s3
  have HTK : Hq (∀ k (h : k < (st s3).size), ((st s3).data.toList.take (k + 1)).count 10 = ((st s3).data.toList.take k).count 10 + (if (st s3)[k] = 10 then 1 else 0)) := hq (fun k h => cnt_take h)
  have HCE : Hq (((st s3).data.toList.take (st s3).size).count 10 = s3.count 10) := hq (by rw [hA1, hA2, List.take_length])
  have HCL : Hq (∀ k, ((st s3).data.toList.take k).count 10 ≤ 600) := hq (fun k => by
    have h7 : ((st s3).data.toList.take k).count 10 ≤ (st s3).data.toList.count 10 := (List.take_sublist k _).count_le 10
    have h8 : (st s3).data.toList.count 10 = s3.count 10 := by rw [hA1]
    omega)
  have hsz : (st s3).size ≤ 900000000 := by omega
  have H5 := hq h5
  clear HNO HOK' HIS h2 h3 h4 h5 h6 hs3 hA1 hA2
  generalize s3.count 10 = C3 at *
  generalize st s3 = A at *
  go_wp2_with fail
  go_loopw [13, 14] (fun u v wr => ∃ (q : Nat), q ≤ A.size ∧ v = .int .i64 (q : Int) ∧ u = .int .i64 (((A.data.toList.take q).count 10 : Nat) : Int) ∧ wr = w4) (fun _ v _ => A.size - (intOf v).toNat)
  case atStart => exact ⟨0, Nat.zero_le _, rfl, rfl, rfl⟩
  case round =>
    obtain ⟨q, hq0, rfl, rfl, rfl⟩ := hrel
    by_cases h : q < A.size
    · have hzq : (q : Int) < (A.size : Int) := by omega
      have HT := hq (HTK.o q h)
      have hcl := HCL.o q
      generalize (A.data.toList.take q).count 10 = cq at *
      by_cases h10 : A[q] = 10
      · have e10 : ((A[q].toNat : Int) == 10) = true := by rw [h10]; rfl
        have HN : Hq ((((A.data.toList.take (q + 1)).count 10 : Nat) : Int) = (cq : Int) + 1) := hq (by have := HT.o; rw [if_pos h10] at this; omega)
        clear HTK HCL HCE HT h10
        go_wp2_with fail
        go_roundw
        case rel => exact ⟨q + 1, h, int_eq (by omega), int_eq HN.o.symm, (by first | rfl | trivial)⟩
        case measure => (try simp [intOf]); omega
      · have e10 : ((A[q].toNat : Int) == 10) = false := beq_eq_false_iff_ne.2 (fun e => h10 (UInt8.toNat_inj.1 (by show A[q].toNat = 10; omega)))
        have HN : Hq ((((A.data.toList.take (q + 1)).count 10 : Nat) : Int) = (cq : Int)) := hq (by have := HT.o; rw [if_neg h10] at this; omega)
        clear HTK HCL HCE HT h10
        go_wp2_with fail
        go_roundw
        case rel => exact ⟨q + 1, h, int_eq (by omega), int_eq HN.o.symm, (by first | rfl | trivial)⟩
        case measure => (try simp [intOf]); omega
    · have hzq : ¬ (q : Int) < (A.size : Int) := by omega
      have hqa : q = A.size := by omega
      subst hqa
      rw [HCE.o]
      have hC3 : C3 ≤ 2 * sz := H5.o
      clear HTK HCL HCE
      go_wp2_with fail
      refine (HBA.o wr).mono ?_
      rintro e w5 ⟨rfl, hb⟩
      have HV5 := hq (below_trans HV4.o hb)
      have HB5 := hq (below_trans HB4.o hb)
      clear hb HV4 HB4 a0 a1 a2 a3 HBA
      obtain ⟨a0, a1, a2, a3⟩ := four_cells (hVC.o w5 HV5.o)
      go_wp2_with fail
      refine (HSZ'.o w5 HB5.o).mono ?_
      rintro e w6 ⟨rfl, hb⟩
      have HV6 := hq (below_trans HV5.o hb)
      have HB6 := hq (below_trans HB5.o hb)
      clear hb HV5 HB5 a0 a1 a2 a3 HSZ'
      obtain ⟨a0, a1, a2, a3⟩ := four_cells (hVC.o w6 HV6.o)
      have hle : decide ((C3 : Int) ≤ 2 * (sz : Int)) = true := decide_eq_true (by omega)
      have hle2 : (C3 : Int) ≤ 2 * (sz : Int) := by omega
      have HV := hq (HP.o w6 HB6.o)
      have HI := HIS2.o
      clear HP HIS2
      by_cases hn : C3 = 0
      · have hn2 : is.length = 0 := HI.1 hn
        have y1 : ((C3 : Int) == 0) = true := by rw [hn]; rfl
        have y2 : ((is.length : Int) == 0) = true := by rw [hn2]; rfl
        clear hn hn2 HI
        go_wp2_with fail
        first
          | exact HV.o
          | (go_ret
             exact HV.o)
          | trace_state
      · have hn2 : ¬ is.length = 0 := fun h => hn (HI.2 h)
        have y1 : ((C3 : Int) == 0) = false := beq_eq_false_iff_ne.2 (by omega)
        have y2 : ((is.length : Int) == 0) = false := beq_eq_false_iff_ne.2 (by omega)
        clear hn hn2 HI
        go_wp2_with fail
        first
          | exact HV.o
          | (go_ret
             exact HV.o)
          | trace_state

end Go.Proofs.YtnlkokgekjlmmaaGreatDoor
