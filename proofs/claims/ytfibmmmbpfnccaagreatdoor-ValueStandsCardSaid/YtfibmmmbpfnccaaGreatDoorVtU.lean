/-
  WALK: value.objects.
-/
import Derived.Test.YtfibmmmbpfnccaaGreatDoorVtT
namespace Go.Proofs.YtfibmmmbpfnccaaGreatDoor
open Go.RowKit

theorem nats_len (ks : List Bs) (n : Nat) (h : n ≤ 1000000) : (ordN ks n).length ≤ 1000000 := by rw [ordN_len]; exact h
theorem ordN_lt {ks : List Bs} {n : Nat} : ∀ i ∈ ordN ks n, i < n := fun i hi => by
  unfold ordN at hi
  obtain ⟨j, _, rfl⟩ := List.mem_map.1 hi
  exact j.isLt
set_option maxHeartbeats 8000000 in
set_option maxRecDepth 1000000 in
theorem objects_any (x y : Vt) (w : World) (hx : x.Ok w) (hy : y.Ok w) (hxk : x.k = 6) (hyk : y.k = 6) (hgx : Good x.m) (hgy : Good y.m)
    (hih : ∀ p ∈ x.is, ∀ q ∈ y.is, ∀ W, Below w.heap.size w W → Calls Tryz.prog 79 #[p.v, q.v] W (IPost (cmpS p.m q.m) W)) :
    Calls Tryz.prog 114 #[x.v, y.v] w (IPost (cmpS x.m y.m) w) := by
  obtain ⟨k, t, ⟨ko, kc, kl⟩, o, c, is⟩ := x
  obtain ⟨k', t', ⟨ko', kc', kl'⟩, o', c', is'⟩ := y
  simp only [Vt.k, Vt.is] at hxk hyk hih
  subst hxk hyk
  rw [Vt.m_mk] at hgx hgy
  simp only at hgx hgy
  rw [Vt.m_mk, Vt.m_mk]
  obtain ⟨hl6, hl4, hnd⟩ := hgx.obj rfl
  obtain ⟨hl6', hl4', hnd'⟩ := hgy.obj rfl
  rw [List.length_map] at hl6 hl6'
  have hil : is.length ≤ 4096 := by omega
  have hil' : is'.length ≤ 4096 := by omega
  have HL6 := hq hl6
  have HL6' := hq hl6'
  clear hl6 hl6'
  have HMM : Hq (cmpS (.mk 6 t kl (is.map Vt.m)) (.mk 6 t' kl' (is'.map Vt.m)) = thenM (lexM (fun i j => cmpB (keyAt kl i) (keyAt kl' j)) (ordN kl is.length) (ordN kl' is'.length)) (lexM (fun i j => cmpS (is.map Vt.m |>.getD i default) (is'.map Vt.m |>.getD j default)) (ordN kl is.length) (ordN kl' is'.length))) := hq (by
    have h := cmpS_obj hgx hgy
    simp only [List.length_map] at h
    exact h)
  have HP : Hq (∀ (m : Int) W', m = cmpS (.mk 6 t kl (is.map Vt.m)) (.mk 6 t' kl' (is'.map Vt.m)) → Below w.heap.size w W' → IPost (cmpS (.mk 6 t kl (is.map Vt.m)) (.mk 6 t' kl' (is'.map Vt.m))) w (.returned (.int .i64 m)) W') := hq (fun m W' h h2 => ⟨by rw [h], h2⟩)
  have hcl := hx.hl
  have hcc := hx.hc
  have hcl' := hy.hl
  have hcc' := hy.hc
  have hkl : kl.length ≤ kc := hx.hks.le
  have hkc : kc ≤ maxLen := hx.hks.cp
  have hkl' : kl'.length ≤ kc' := hy.hks.le
  have hkc' : kc' ≤ maxLen := hy.hks.cp
  obtain ⟨hb0, hw0, hw1⟩ := two_boxes w 25 #[.int .i64 6, .string (st t), .slice ko kl.length kc, .slice o is.length c] #[.int .i64 6, .string (st t'), .slice ko' kl'.length kc', .slice o' is'.length c']
  have HBA := hq (fun V (h : Below w.heap.size w V) => bykey_any (Vt.mk 6 t ⟨ko, kc, kl⟩ o c is) V (hx.grow h) (by simp only [Vt.is]; omega) (fun _ => ⟨HL6.o, hnd⟩))
  have HBB := hq (fun V (h : Below w.heap.size w V) => bykey_any (Vt.mk 6 t' ⟨ko', kc', kl'⟩ o' c' is') V (hy.grow h) (by simp only [Vt.is]; omega) (fun _ => ⟨HL6'.o, hnd'⟩))
  have eA : ordK (Vt.mk 6 t ⟨ko, kc, kl⟩ o c is).m = ordN kl is.length := by
    rw [Vt.m_mk]
    have : (is.map Vt.m).length = is.length := List.length_map ..
    show (if (6 : Int) = 6 then ordN kl (is.map Vt.m).length else _) = _
    rw [if_pos rfl, this]
  have eB : ordK (Vt.mk 6 t' ⟨ko', kc', kl'⟩ o' c' is').m = ordN kl' is'.length := by
    rw [Vt.m_mk]
    have : (is'.map Vt.m).length = is'.length := List.length_map ..
    show (if (6 : Int) = 6 then ordN kl' (is'.map Vt.m).length else _) = _
    rw [if_pos rfl, this]
  rw [eA] at HBA
  rw [eB] at HBB
  rw [Vt.v_mk'] at *
  rw [Vt.v_mk'] at *
  have HX := hq hx
  have HY := hq hy
  have HIH := hq hih
  generalize IPost (cmpS (.mk 6 t kl (is.map Vt.m)) (.mk 6 t' kl' (is'.map Vt.m))) w = PP at *
  generalize cmpS (.mk 6 t kl (is.map Vt.m)) (.mk 6 t' kl' (is'.map Vt.m)) = CM at *
  have HLA := hq (ordN_len kl is.length)
  have HLB := hq (ordN_len kl' is'.length)
  have HTA := hq (@ordN_lt kl is.length)
  have HTB := hq (@ordN_lt kl' is'.length)
  generalize ordN kl is.length = oa at *
  generalize ordN kl' is'.length = ob at *
  have HB0 := hq hb0
  have HW0 := hq hw0
  have HW1 := hq hw1
  clear hx hy hgx hgy hih hb0 hw0 hw1 eA eB hnd hnd'
  go_enter Tryz.func114, Tryz.ntmps114
  go_upto_region 1 with fail
  generalize ((w.alloc (.cells #[.int .i64 6, .string (st t), .slice ko kl.length kc, .slice o is.length c] 25)).alloc (.cells #[.int .i64 6, .string (st t'), .slice ko' kl'.length kc', .slice o' is'.length c'] 25)) = V0 at *
  have hVg := hq (fun wr (hb : Below V0.heap.size V0 wr) => four_cells (HW0.o.grow hb))
  have hVh := hq (fun wr (hb : Below V0.heap.size V0 wr) => four_cells (HW1.o.grow hb))
  go_cut [5, 6] from 8 to 11 (fun a b wx => ∃ pa ca pb cb, a = .slice pa oa.length ca ∧ b = .slice pb ob.length cb ∧ Hq (NatsIn wx pa oa) ∧ Hq (NatsIn wx pb ob) ∧ Hq (Below V0.heap.size V0 wx))
  case first =>
    have HS := hq (fun V (hb : Below V0.heap.size V0 V) => And.intro (hVg.o V hb) (hVh.o V hb))
    obtain ⟨⟨a0, a1, a2, a3⟩, b0, b1, b2, b3⟩ := HS.o V0 (Below.refl _ _)
    have HBY : Hq (∀ (V : World) (A : Value) (od : List Nat), ((A = .agg #[.int .i64 6, .string (st t), .slice ko kl.length kc, .slice o is.length c] ∧ od = oa) ∨ (A = .agg #[.int .i64 6, .string (st t'), .slice ko' kl'.length kc', .slice o' is'.length c'] ∧ od = ob)) → Below V0.heap.size V0 V → Calls Tryz.prog 77 #[A] V (NatsPost V.heap.size od V)) := hq (fun V A od h hb => by
      rcases h with ⟨rfl, rfl⟩ | ⟨rfl, rfl⟩
      · exact HBA.o V (below_trans HB0.o hb)
      · exact HBB.o V (below_trans HB0.o hb))
    have HBD := hq ((Below.refl V0.heap.size V0).drew)
    clear HBA HBB HIH HP HMM HX HY HTA HTB HLA HLB hkl hkc hkl' hkc' hcl hcl' hcc hcc' hl4 hl4'
    go_region_with (go_at_call 77; refine (HBY.o _ _ _ (by first | exact .inl ⟨rfl, rfl⟩ | exact .inr ⟨rfl, rfl⟩) (by first | exact HBD.o | exact HB9.o)).mono ?_; rintro e9 w9 ⟨va, rfl, hva, hb9⟩; obtain ⟨pA, cA, rfl⟩ := row_shapeV hva; have hNA := hq (nats_of_own hva); have hB9 := hq hb9; have HB9 := hq (show Below V0.heap.size V0 w9 from by first | exact below_trans HB9.o hb9 | exact below_trans HBD.o hb9); obtain ⟨⟨a0, a1, a2, a3⟩, b0, b1, b2, b3⟩ := HS.o w9 HB9.o; clear hva hb9)
    all_goals
      go_wp2_with fail
      go_meet
      refine ⟨_, _, _, _, rfl, rfl, ?_, ?_, HB9⟩
    all_goals
      first
      | assumption
      | exact hq (NatsIn.grow (Hq.o (by assumption)) (Hq.o (by assumption)))
  case rest =>
    obtain ⟨pa, ca, pb, cb, rfl, rfl, HNA, HNB, HBC⟩ := hcut
    have HAO := hq (fun V (hb : Below wc.heap.size wc V) => And.intro (hVg.o V (below_trans HBC.o hb)) (hVh.o V (below_trans HBC.o hb)))
    have HBW := hq (below_trans HB0.o HBC.o)
    have hoal : oa.length ≤ 1000000 := by have := HLA.o; omega
    have hobl : ob.length ≤ 1000000 := by have := HLB.o; omega
    have HC1 := hq (rowsI_any (w0 := wc) (fun i j => cmpB (keyAt kl i) (keyAt kl' j)) enter_objects1 (caps := #[.pointer (some ⟨w.heap.size, 0, none⟩), .pointer (some ⟨w.heap.size + 1, 0, none⟩)]) pa pb ca cb oa ob hoal hobl HNA.o HNB.o (fun i hi j hj V hV => objects1_any _ _ ko ko' kc kc' kl kl' V hkl hkc hkl' hkc' (HAO.o V hV).1.2.2.1 (HAO.o V hV).2.2.2.1 (((HX.o.grow HBW.o).grow hV).hks.rd) (((HY.o.grow HBW.o).grow hV).hks.rd) i j (by have := HTA.o i hi; have := HL6.o; omega) (by have := HTB.o j hj; have := HL6'.o; omega)) wc (Below.refl _ _))
    have HC2 := hq (fun V (hV : Below wc.heap.size wc V) => rowsI_any (w0 := wc) (fun i j => cmpS (is.map Vt.m |>.getD i default) (is'.map Vt.m |>.getD j default)) enter_objects2 (caps := #[.pointer (some ⟨w.heap.size, 0, none⟩), .pointer (some ⟨w.heap.size + 1, 0, none⟩)]) pa pb ca cb oa ob hoal hobl HNA.o HNB.o (fun i hi j hj V hV => by
      have h1 := HTA.o i hi
      have h2 := HTB.o j hj
      have e1 : (is.map Vt.m).getD i default = is[i].m := by simp [h1]
      have e2 : (is'.map Vt.m).getD j default = is'[j].m := by simp [h2]
      rw [e1, e2]
      exact objects2_any _ _ o o' c c' is is' V hcl hcc hcl' hcc' (HAO.o V hV).1.2.2.2 (HAO.o V hV).2.2.2.2 (((HX.o.grow HBW.o).grow hV).at_) (((HY.o.grow HBW.o).grow hV).at_) i j h1 h2 _ (fun W hW => HIH.o _ (List.getElem_mem h1) _ (List.getElem_mem h2) W (below_trans HBW.o (below_trans hV hW)))) V hV)
    generalize lexM (fun i j => cmpB (keyAt kl i) (keyAt kl' j)) oa ob = c1 at *
    generalize lexM (fun i j => cmpS (is.map Vt.m |>.getD i default) (is'.map Vt.m |>.getD j default)) oa ob = c2 at *
    clear HAO HIH HTA HTB HX HY HLA HLB HBA HBB HNA HNB hVg hVh
    go_wp2_with fail
    refine HC1.o.mono ?_
    rintro e w2 ⟨rfl, hb2⟩
    have HB2 := hq hb2
    clear HC1 hb2
    by_cases h0 : c1 = 0
    · have e0 : (c1 != 0) = false := by rw [bne, beq_iff_eq.2 h0]; rfl
      have HM2 := hq (HMM.o.trans (if_neg (fun h => h h0)))
      clear h0 HMM
      go_wp2_with fail
      refine (HC2.o w2 HB2.o).mono ?_
      rintro e w3 ⟨rfl, hb3⟩
      have HV := hq (HP.o c2 w3 HM2.o.symm (below_trans (below_trans HBW.o HB2.o) hb3))
      clear HP HM2 hb3 HC2
      go_wp2_with fail
      exact HV.o
    · have e0 : (c1 != 0) = true := bne_iff_ne.2 h0
      have HV := hq (HP.o c1 w2 (HMM.o.trans (if_pos h0)).symm (below_trans HBW.o HB2.o))
      clear h0 HMM HP HC2
      go_wp2_with fail
      exact HV.o
end Go.Proofs.YtfibmmmbpfnccaaGreatDoor
