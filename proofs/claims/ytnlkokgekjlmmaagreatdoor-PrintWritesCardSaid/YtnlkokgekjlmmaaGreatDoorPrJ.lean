/-
  WALK: the law PrintWrites, over its small case.
-/
import Derived.Test.YtnlkokgekjlmmaaGreatDoorPrI
import Derived.Test.YtnlkokgekjlmmaaGreatDoorPrN
namespace Go.Proofs.YtnlkokgekjlmmaaGreatDoor
open Go.RowKit

theorem clone_fine {x : Vt} {V : World} (hx : Fine x V) (hw : x.m.weight ≤ 1000000) : Calls Tryz.prog 15 #[x.v] V fun e W => ∃ y : Vt, e = .returned y.v ∧ (Fine y W ∧ y.m = x.m) ∧ Below V.heap.size V W :=
  (clone_any x V hx.ok hw).mono fun e W ⟨y, h1, h2, h3, h4⟩ => ⟨y, h1, ⟨⟨h2.ok (by rw [h3]; exact hx.ok.rng), by rw [h3]; exact hx.lim, by rw [h3]; exact hx.sz⟩, h3⟩, h4⟩
set_option maxHeartbeats 16000000 in
set_option maxRecDepth 1000000 in
theorem pwrites_law (x : Vt) (i lv : Int) (w : World) (hE : Env w) (hx : x.Ok w) (hsm : ∀ V, Below w.heap.size w V → Calls Tryz.prog 13 #[] V (BPost true V)) :
    Calls Tryz.prog 3 #[x.v, .int .i64 i, .int .i64 lv] w (BPost true w) := by
  have HSM := hq hsm
  have HFX := hq (fun V (hV : Below w.heap.size w V) => few1_any x 300 V (hx.grow hV) (by decide))
  have hpr : ∀ (hf : FewV x.m 300) V (hV : Below w.heap.size w V), Pri x V := fun hf V hV => few_pri (hx.grow hV) hf (by decide)
  have HCL := hq (fun (hf : FewV x.m 300) V (hV : Below w.heap.size w V) => clone_fine (hpr hf V hV).fine (Nat.le_trans hf.wt (by decide)))
  have HC1 := hq (fun (hf : FewV x.m 300) V (hV : Below w.heap.size w V) => pcompact x V (hE.grow hV) (hpr hf V hV))
  have HC2 := hq (fun (hf : FewV x.m 300) V (hV : Below w.heap.size w V) => pcanon x V (hE.grow hV) (hpr hf V hV))
  have HC3 := hq (fun (hf : FewV x.m 300) V (hV : Below w.heap.size w V) => ppretty x i lv V (hE.grow hV) (hpr hf V hV))
  have HD1 := hq (fun (hf : FewV x.m 300) V (hV : Below w.heap.size w V) => rcompact_any x V (hpr hf V hV))
  have HD2 := hq (fun (hf : FewV x.m 300) V (hV : Below w.heap.size w V) => rcanon_any x V (hpr hf V hV))
  have HD3 := hq (fun (hf : FewV x.m 300) V (hV : Below w.heap.size w V) => rpretty_any x i lv V (hpr hf V hV))
  have HEQ : Hq (∀ (y : Vt) V, Below w.heap.size w V → y.Ok V → y.m = x.m → Calls Tryz.prog 22 #[x.v, y.v] V (BPost true V)) := hq (fun y V hV hy hm => (equal_any x y V (hx.grow hV) hy).mono fun e W ⟨v, h1, h2, h3⟩ => ⟨by rw [h1, h2.2 hm.symm], h3⟩)
  clear hpr
  have HP : Hq (∀ W', Below w.heap.size w W' → BPost true w (.returned (.bool true)) W') := hq (fun W' h => ⟨rfl, h⟩)
  generalize BPost true w = PP at *
  generalize compactM (sortM x.m) = P2 at *
  generalize compactM x.m = P1 at *
  generalize prettyM x.m i lv = P3 at *
  clear hE hx hsm
  obtain ⟨k, t, ⟨ko, kc, kl⟩, o, c, is⟩ := x
  rw [Vt.v_mk'] at *
  generalize (Vt.mk k t ⟨ko, kc, kl⟩ o c is).m = MX at *
  obtain ⟨s1, e1⟩ := P1
  obtain ⟨s2, e2⟩ := P2
  obtain ⟨s3, e3⟩ := P3
  have hb0 := below_alloc w (.cells #[.int .i64 k, .string (st t), .slice ko kl.length kc, .slice o is.length c] 25)
  have HB0 := hq hb0
  have HW0 := hq (Whole.made w 25 #[.int .i64 k, .string (st t), .slice ko kl.length kc, .slice o is.length c])
  clear hb0
  go_enter Tryz.func3, Tryz.ntmps3
  go_upto_region 1 with fail
  generalize w.heap.size = g at HW0
  generalize (w.alloc (.cells #[.int .i64 k, .string (st t), .slice ko kl.length kc, .slice o is.length c] 25)) = V0 at *
  have hVC := hq (fun wr (hb : Below V0.heap.size V0 wr) => HW0.o.grow hb)
  clear HW0
  have HV0 := hq (Below.refl V0.heap.size V0)
  obtain ⟨a0, a1, a2, a3⟩ := four_cells (hVC.o V0 HV0.o)
  go_wp2_with fail
  refine (HSM.o V0 HB0.o).mono ?_
  rintro e w1 ⟨rfl, hb⟩
  have HV1 := hq (below_trans HV0.o hb)
  have HB1 := hq (below_trans HB0.o hb)
  clear hb HV0 HB0 a0 a1 a2 a3 HSM
  obtain ⟨a0, a1, a2, a3⟩ := four_cells (hVC.o w1 HV1.o)
  go_wp2_with fail
  refine (HFX.o w1 HB1.o).mono ?_
  rintro e w2 ⟨fx, rfl, hfx, hb⟩
  have HV2 := hq (below_trans HV1.o hb)
  have HB2 := hq (below_trans HB1.o hb)
  clear hb HV1 HB1 a0 a1 a2 a3 HFX
  obtain ⟨a0, a1, a2, a3⟩ := four_cells (hVC.o w2 HV2.o)
  have HHX := hq hfx
  clear hfx
  cases fx with
  | false =>
    have HV := hq (HP.o w2 HB2.o)
    clear HP HCL HC1 HC2 HC3 HD1 HD2 HD3 HEQ HHX
    go_wp2_with fail
    first
      | exact HV.o
      | (go_ret
         exact HV.o)
      | trace_state
  | true =>
  have HF := hq (HHX.o rfl)
  clear HHX
  have HCL' := hq (HCL.o HF.o)
  have HC1' := hq (HC1.o HF.o)
  have HC2' := hq (HC2.o HF.o)
  have HC3' := hq (HC3.o HF.o)
  have HD1' := hq (HD1.o HF.o)
  have HD2' := hq (HD2.o HF.o)
  have HD3' := hq (HD3.o HF.o)
  clear HCL HC1 HC2 HC3 HD1 HD2 HD3 HF
  go_wp2_with fail
  refine (HCL'.o w2 HB2.o).mono ?_
  rintro e w3 ⟨y, rfl, ⟨hyf, hym⟩, hb⟩
  have HV3 := hq (below_trans HV2.o hb)
  have HB3 := hq (below_trans HB2.o hb)
  have HYF := hq hyf.ok
  have HYM := hq hym
  clear hb HV2 HB2 a0 a1 a2 a3 HCL' hyf hym
  obtain ⟨k', t', ⟨ko', kc', kl'⟩, o', c', is'⟩ := y
  have HEQ' := hq (fun V (h1 : Below w.heap.size w V) (h2 : Below w3.heap.size w3 V) => HEQ.o _ V h1 (HYF.o.grow h2) HYM.o)
  clear HEQ HYF HYM
  rw [Vt.v_mk'] at *
  go_upto_region 6 with fail
  have hba := below_alloc w3 (.cells #[.int .i64 k', .string (st t'), .slice ko' kl'.length kc', .slice o' is'.length c'] 25)
  have HVX := hq (below_trans HV3.o hba)
  have HBX := hq (below_trans HB3.o hba)
  have HYW := hq (Whole.made w3 25 #[.int .i64 k', .string (st t'), .slice ko' kl'.length kc', .slice o' is'.length c'])
  have HEQ2 := hq (fun V (h1 : Below w.heap.size w V) h2 => HEQ'.o V h1 (below_trans hba h2))
  clear hba HV3 HB3 HEQ'
  generalize w3.heap.size = gy at *
  generalize w3.alloc (.cells #[.int .i64 k', .string (st t'), .slice ko' kl'.length kc', .slice o' is'.length c'] 25) = w4 at *
  have HV4 := HVX
  have HB4 := HBX
  have hYC := hq (fun wr (hb : Below w4.heap.size w4 wr) => HYW.o.grow hb)
  have HYB := hq (Below.refl w4.heap.size w4)
  clear HVX HBX HYW
  obtain ⟨a0, a1, a2, a3⟩ := four_cells (hVC.o w4 HV4.o)
  go_wp2_with fail
  refine (HC1'.o w4 HB4.o).mono ?_
  rintro e w5 ⟨rfl, hb⟩
  replace HYB := hq (below_trans HYB.o hb)
  have HV5 := hq (below_trans HV4.o hb)
  have HB5 := hq (below_trans HB4.o hb)
  clear hb HV4 HB4 a0 a1 a2 a3 HC1'
  obtain ⟨a0, a1, a2, a3⟩ := four_cells (hVC.o w5 HV5.o)
  go_wp2_with fail
  refine (HC2'.o w5 HB5.o).mono ?_
  rintro e w6 ⟨rfl, hb⟩
  replace HYB := hq (below_trans HYB.o hb)
  have HV6 := hq (below_trans HV5.o hb)
  have HB6 := hq (below_trans HB5.o hb)
  clear hb HV5 HB5 a0 a1 a2 a3 HC2'
  obtain ⟨a0, a1, a2, a3⟩ := four_cells (hVC.o w6 HV6.o)
  go_wp2_with fail
  refine (HC3'.o w6 HB6.o).mono ?_
  rintro e w7 ⟨rfl, hb⟩
  replace HYB := hq (below_trans HYB.o hb)
  have HV7 := hq (below_trans HV6.o hb)
  have HB7 := hq (below_trans HB6.o hb)
  clear hb HV6 HB6 a0 a1 a2 a3 HC3'
  obtain ⟨a0, a1, a2, a3⟩ := four_cells (hVC.o w7 HV7.o)
  go_wp2_with fail
  refine (HD1'.o w7 HB7.o).mono ?_
  rintro e w8 ⟨rfl, hb⟩
  replace HYB := hq (below_trans HYB.o hb)
  have HV8 := hq (below_trans HV7.o hb)
  have HB8 := hq (below_trans HB7.o hb)
  clear hb HV7 HB7 a0 a1 a2 a3 HD1'
  obtain ⟨a0, a1, a2, a3⟩ := four_cells (hVC.o w8 HV8.o)
  go_wp2_with fail
  refine (HD2'.o w8 HB8.o).mono ?_
  rintro e w9 ⟨rfl, hb⟩
  replace HYB := hq (below_trans HYB.o hb)
  have HV9 := hq (below_trans HV8.o hb)
  have HB9 := hq (below_trans HB8.o hb)
  clear hb HV8 HB8 a0 a1 a2 a3 HD2'
  obtain ⟨a0, a1, a2, a3⟩ := four_cells (hVC.o w9 HV9.o)
  go_wp2_with fail
  refine (HD3'.o w9 HB9.o).mono ?_
  rintro e w10 ⟨rfl, hb⟩
  replace HYB := hq (below_trans HYB.o hb)
  have HV10 := hq (below_trans HV9.o hb)
  have HB10 := hq (below_trans HB9.o hb)
  clear hb HV9 HB9 a0 a1 a2 a3 HD3'
  obtain ⟨a0, a1, a2, a3⟩ := four_cells (hVC.o w10 HV10.o)
  obtain ⟨b0, b1, b2, b3⟩ := four_cells (hYC.o _ HYB.o)
  simp only at *
  go_wp2_with fail
  refine (HEQ2.o w10 HB10.o HYB.o).mono ?_
  rintro e w11 ⟨rfl, hb⟩
  have HV11 := hq (below_trans HV10.o hb)
  have HB11 := hq (below_trans HB10.o hb)
  clear hb HV10 HB10 a0 a1 a2 a3 HEQ2 hYC HYB b0 b1 b2 b3
  obtain ⟨a0, a1, a2, a3⟩ := four_cells (hVC.o w11 HV11.o)
  have HV := hq (HP.o w11 HB11.o)
  clear HP 
  go_wp2_with fail
  first
    | exact HV.o
    | (go_ret
       exact HV.o)
    | trace_state

end Go.Proofs.YtnlkokgekjlmmaaGreatDoor
