/-
  WALK: the law PrintApart, over its small case.
-/
import Derived.Test.YtnlkokgekjlmmaaGreatDoorPrU
import Derived.Test.YtnlkokgekjlmmaaGreatDoorPrN
namespace Go.Proofs.YtnlkokgekjlmmaaGreatDoor
open Go.RowKit

set_option maxHeartbeats 16000000 in
set_option maxRecDepth 1000000 in
theorem papart_law (x y : Vt) (w : World) (hE : Env w) (hx : x.Ok w) (hy : y.Ok w) (hsm : ∀ V, Below w.heap.size w V → Calls Tryz.prog 13 #[] V (BPost true V)) :
    Calls Tryz.prog 4 #[x.v, y.v] w (BPost true w) := by
  have HSM := hq hsm
  have HFX := hq (fun V (hV : Below w.heap.size w V) => few1_any x 300 V (hx.grow hV) (by decide))
  have HFY := hq (fun V (hV : Below w.heap.size w V) => few1_any y 300 V (hy.grow hV) (by decide))
  have HCX := hq (fun (hf : FewV x.m 300) V (hV : Below w.heap.size w V) => pcanon x V (hE.grow hV) (few_pri (hx.grow hV) hf (by decide)))
  have HCY := hq (fun (hf : FewV y.m 300) V (hV : Below w.heap.size w V) => pcanon y V (hE.grow hV) (few_pri (hy.grow hV) hf (by decide)))
  have HPX := hq (fun (hf : FewV x.m 300) V (hV : Below w.heap.size w V) => pcompact x V (hE.grow hV) (few_pri (hx.grow hV) hf (by decide)))
  have HPY := hq (fun (hf : FewV y.m 300) V (hV : Below w.heap.size w V) => pcompact y V (hE.grow hV) (few_pri (hy.grow hV) hf (by decide)))
  have HRX := hq (fun (hf : FewV x.m 300) V (hV : Below w.heap.size w V) => (have hz := few_fine (hx.grow hV) hf (by decide : 300 ≤ 1000000); vright_any x V (hE.grow hV) hz.ok hz.lim (Nat.le_trans hz.sz (by decide))))
  have HSA := hq (fun (hf : FewV x.m 300) (hg : FewV y.m 300) V (hV : Below w.heap.size w V) => vSame_any x y V (hE.grow hV) (few_fine (hx.grow hV) hf (by decide)) (few_fine (hy.grow hV) hg (by decide)))
  have HEQ := hq (fun V (hV : Below w.heap.size w V) => equal_any x y V (hx.grow hV) (hy.grow hV))
  have key : ∀ m : Vl, ∀ b, rightM m = b → (compactM (sortM m)).2 = (if b = true then 0 else 1) ∧ (compactM m).2 = (if b = true then 0 else 1) := fun m b h => by
    constructor
    · unfold compactM; rw [sortM_right, h]; cases b <;> rfl
    · unfold compactM; rw [h]; cases b <;> rfl
  have HKX := hq (key x.m)
  have HKY := hq (key y.m)
  have HAP : Hq (rightM x.m = true → rightM y.m = true → (((compactM (sortM x.m)).1 = (compactM (sortM y.m)).1 ↔ sameM x.m y.m = true) ∧ ((compactM x.m).1 = (compactM y.m).1 ↔ x.m = y.m))) := hq (fun h1 h2 => ⟨canon_apart h1 h2, compact_apart h1 h2⟩)
  have HP : Hq (∀ W', Below w.heap.size w W' → BPost true w (.returned (.bool true)) W') := hq (fun W' h => ⟨rfl, h⟩)
  generalize BPost true w = PP at *
  generalize compactM (sortM x.m) = P1 at *
  generalize compactM (sortM y.m) = P2 at *
  generalize compactM x.m = P3 at *
  generalize compactM y.m = P4 at *
  generalize rightM x.m = rx at *
  generalize rightM y.m = ry at *
  generalize sameM x.m y.m = sm at *
  clear hE hx hy hsm key
  obtain ⟨k, t, ⟨ko, kc, kl⟩, o, c, is⟩ := x
  obtain ⟨k', t', ⟨ko', kc', kl'⟩, o', c', is'⟩ := y
  rw [Vt.v_mk'] at HFX HCX HPX HRX HSA HEQ ⊢
  rw [Vt.v_mk'] at HFY HCY HPY HSA HEQ ⊢
  generalize (Vt.mk k t ⟨ko, kc, kl⟩ o c is).m = MX at *
  generalize (Vt.mk k' t' ⟨ko', kc', kl'⟩ o' c' is').m = MY at *
  obtain ⟨s1, e1⟩ := P1
  obtain ⟨s2, e2⟩ := P2
  obtain ⟨s3, e3⟩ := P3
  obtain ⟨s4, e4⟩ := P4
  obtain ⟨hb0, hw0, hw1⟩ := two_boxes w 25 #[.int .i64 k, .string (st t), .slice ko kl.length kc, .slice o is.length c] #[.int .i64 k', .string (st t'), .slice ko' kl'.length kc', .slice o' is'.length c']
  have HB0 := hq hb0
  have HW0 := hq hw0
  have HW1 := hq hw1
  clear hb0 hw0 hw1
  go_enter Tryz.func4, Tryz.ntmps4
  go_upto_region 1 with fail
  generalize w.heap.size = g at HW0 HW1
  generalize ((w.alloc (.cells #[.int .i64 k, .string (st t), .slice ko kl.length kc, .slice o is.length c] 25)).alloc (.cells #[.int .i64 k', .string (st t'), .slice ko' kl'.length kc', .slice o' is'.length c'] 25)) = V0 at *
  have hVC := hq (fun wr (hb : Below V0.heap.size V0 wr) => And.intro (HW0.o.grow hb) (HW1.o.grow hb))
  clear HW0 HW1
  have HV0 := hq (Below.refl V0.heap.size V0)
  obtain ⟨a0, a1, a2, a3⟩ := four_cells (hVC.o V0 HV0.o).1
  obtain ⟨b0, b1, b2, b3⟩ := four_cells (hVC.o V0 HV0.o).2
  go_wp2_with fail
  refine (HSM.o V0 HB0.o).mono ?_
  rintro e w1 ⟨rfl, hb⟩
  have HV1 := hq (below_trans HV0.o hb)
  have HB1 := hq (below_trans HB0.o hb)
  clear hb HV0 HB0 a0 a1 a2 a3 b0 b1 b2 b3 HSM
  obtain ⟨a0, a1, a2, a3⟩ := four_cells (hVC.o w1 HV1.o).1
  obtain ⟨b0, b1, b2, b3⟩ := four_cells (hVC.o w1 HV1.o).2
  go_wp2_with fail
  refine (HFX.o w1 HB1.o).mono ?_
  rintro e w2 ⟨fx, rfl, hfx, hb⟩
  have HV2 := hq (below_trans HV1.o hb)
  have HB2 := hq (below_trans HB1.o hb)
  clear hb HV1 HB1 a0 a1 a2 a3 b0 b1 b2 b3 HFX
  obtain ⟨a0, a1, a2, a3⟩ := four_cells (hVC.o w2 HV2.o).1
  obtain ⟨b0, b1, b2, b3⟩ := four_cells (hVC.o w2 HV2.o).2
  have HHX := hq hfx
  clear hfx
  cases fx with
  | false =>
    have HV := hq (HP.o w2 HB2.o)
    clear HP HFY HCX HCY HPX HPY HRX HSA HEQ HKX HKY HAP HHX
    go_wp2_with fail
    first
      | exact HV.o
      | (go_ret
         exact HV.o)
      | trace_state
  | true =>
  have HF := hq (HHX.o rfl)
  clear HHX
  go_wp2_with fail
  refine (HFY.o w2 HB2.o).mono ?_
  rintro e w3 ⟨fy, rfl, hfy, hb⟩
  have HV3 := hq (below_trans HV2.o hb)
  have HB3 := hq (below_trans HB2.o hb)
  clear hb HV2 HB2 a0 a1 a2 a3 b0 b1 b2 b3 HFY
  obtain ⟨a0, a1, a2, a3⟩ := four_cells (hVC.o w3 HV3.o).1
  obtain ⟨b0, b1, b2, b3⟩ := four_cells (hVC.o w3 HV3.o).2
  have HHY := hq hfy
  clear hfy
  cases fy with
  | false =>
    have HV := hq (HP.o w3 HB3.o)
    clear HP HCX HCY HPX HPY HRX HSA HEQ HKX HKY HAP HHY HF
    go_wp2_with fail
    first
      | exact HV.o
      | (go_ret
         exact HV.o)
      | trace_state
  | true =>
  have HG := hq (HHY.o rfl)
  clear HHY
  have HCX' := hq (HCX.o HF.o)
  have HCY' := hq (HCY.o HG.o)
  have HPX' := hq (HPX.o HF.o)
  have HPY' := hq (HPY.o HG.o)
  have HRX' := hq (HRX.o HF.o)
  have HSA' := hq (HSA.o HF.o HG.o)
  clear HCX HCY HPX HPY HRX HSA HF HG
  have HKX' := hq (HKX.o rx rfl)
  have HKY' := hq (HKY.o ry rfl)
  clear HKX HKY
  go_wp2_with fail
  refine (HCX'.o w3 HB3.o).mono ?_
  rintro e w4 ⟨rfl, hb⟩
  have HV4 := hq (below_trans HV3.o hb)
  have HB4 := hq (below_trans HB3.o hb)
  clear hb HV3 HB3 a0 a1 a2 a3 b0 b1 b2 b3 HCX'
  obtain ⟨a0, a1, a2, a3⟩ := four_cells (hVC.o w4 HV4.o).1
  obtain ⟨b0, b1, b2, b3⟩ := four_cells (hVC.o w4 HV4.o).2
  go_wp2_with fail
  refine (HCY'.o w4 HB4.o).mono ?_
  rintro e w5 ⟨rfl, hb⟩
  have HV5 := hq (below_trans HV4.o hb)
  have HB5 := hq (below_trans HB4.o hb)
  clear hb HV4 HB4 a0 a1 a2 a3 b0 b1 b2 b3 HCY'
  obtain ⟨a0, a1, a2, a3⟩ := four_cells (hVC.o w5 HV5.o).1
  obtain ⟨b0, b1, b2, b3⟩ := four_cells (hVC.o w5 HV5.o).2
  go_wp2_with fail
  refine (HPX'.o w5 HB5.o).mono ?_
  rintro e w6 ⟨rfl, hb⟩
  have HV6 := hq (below_trans HV5.o hb)
  have HB6 := hq (below_trans HB5.o hb)
  clear hb HV5 HB5 a0 a1 a2 a3 b0 b1 b2 b3 HPX'
  obtain ⟨a0, a1, a2, a3⟩ := four_cells (hVC.o w6 HV6.o).1
  obtain ⟨b0, b1, b2, b3⟩ := four_cells (hVC.o w6 HV6.o).2
  go_wp2_with fail
  refine (HPY'.o w6 HB6.o).mono ?_
  rintro e w7 ⟨rfl, hb⟩
  have HV7 := hq (below_trans HV6.o hb)
  have HB7 := hq (below_trans HB6.o hb)
  clear hb HV6 HB6 a0 a1 a2 a3 b0 b1 b2 b3 HPY'
  obtain ⟨a0, a1, a2, a3⟩ := four_cells (hVC.o w7 HV7.o).1
  obtain ⟨b0, b1, b2, b3⟩ := four_cells (hVC.o w7 HV7.o).2
  cases rx with
  | false =>
    obtain ⟨f1, f3⟩ := HKX'.o
    simp only [Bool.false_eq_true, if_false] at f1 f3
    subst f1
    subst f3
    clear HAP HSA' HEQ HKX'
    go_wp2_with fail
    refine (HRX'.o w7 HB7.o).mono ?_
    rintro e w8 ⟨rfl, hb⟩
    have HV8 := hq (below_trans HV7.o hb)
    have HB8 := hq (below_trans HB7.o hb)
    clear hb HV7 HB7 a0 a1 a2 a3 b0 b1 b2 b3 
    obtain ⟨a0, a1, a2, a3⟩ := four_cells (hVC.o w8 HV8.o).1
    obtain ⟨b0, b1, b2, b3⟩ := four_cells (hVC.o w8 HV8.o).2
    go_wp2_with fail
    refine (HRX'.o w8 HB8.o).mono ?_
    rintro e w9 ⟨rfl, hb⟩
    have HV9 := hq (below_trans HV8.o hb)
    have HB9 := hq (below_trans HB8.o hb)
    clear hb HV8 HB8 a0 a1 a2 a3 b0 b1 b2 b3 
    obtain ⟨a0, a1, a2, a3⟩ := four_cells (hVC.o w9 HV9.o).1
    obtain ⟨b0, b1, b2, b3⟩ := four_cells (hVC.o w9 HV9.o).2
    have HV := hq (HP.o w9 HB9.o)
    clear HP HRX'
    go_wp2_with fail
    first
      | exact HV.o
      | (go_ret
         exact HV.o)
      | trace_state
  | true =>
  obtain ⟨f1, f3⟩ := HKX'.o
  simp only [if_true] at f1 f3
  subst f1
  subst f3
  clear HKX'
  go_wp2_with fail
  refine (HRX'.o w7 HB7.o).mono ?_
  rintro e w8 ⟨rfl, hb⟩
  have HV8 := hq (below_trans HV7.o hb)
  have HB8 := hq (below_trans HB7.o hb)
  clear hb HV7 HB7 a0 a1 a2 a3 b0 b1 b2 b3 
  obtain ⟨a0, a1, a2, a3⟩ := four_cells (hVC.o w8 HV8.o).1
  obtain ⟨b0, b1, b2, b3⟩ := four_cells (hVC.o w8 HV8.o).2
  go_wp2_with fail
  refine (HRX'.o w8 HB8.o).mono ?_
  rintro e w9 ⟨rfl, hb⟩
  have HV9 := hq (below_trans HV8.o hb)
  have HB9 := hq (below_trans HB8.o hb)
  clear hb HV8 HB8 a0 a1 a2 a3 b0 b1 b2 b3 HRX'
  obtain ⟨a0, a1, a2, a3⟩ := four_cells (hVC.o w9 HV9.o).1
  obtain ⟨b0, b1, b2, b3⟩ := four_cells (hVC.o w9 HV9.o).2
  cases ry with
  | false =>
    obtain ⟨f2, f4⟩ := HKY'.o
    simp only [Bool.false_eq_true, if_false] at f2 f4
    subst f2
    subst f4
    have HV := hq (HP.o w9 HB9.o)
    clear HP HAP HSA' HEQ HKY'
    go_wp2_with fail
    first
      | exact HV.o
      | (go_ret
         exact HV.o)
      | trace_state
  | true =>
  obtain ⟨f2, f4⟩ := HKY'.o
  simp only [if_true] at f2 f4
  subst f2
  subst f4
  obtain ⟨hc, hd⟩ := HAP.o (by first | rfl | trivial) (by first | rfl | trivial)
  (try simp only at hc hd)
  have HC : Hq ((s1 == s2) = sm) := hq (by cases sm with | true => exact beq_iff_eq.2 (hc.2 rfl) | false => exact beq_eq_false_iff_ne.2 (fun h => by have := hc.1 h; cases this))
  have HD : Hq (∀ q : Bool, (q = true ↔ MX = MY) → (s3 == s4) = q) := hq (fun q hq => by cases q with | true => exact beq_iff_eq.2 (hd.2 (hq.1 rfl)) | false => exact beq_eq_false_iff_ne.2 (fun h => by have := hq.2 (hd.1 h); cases this))
  clear HAP hc hd
  have hcc := HC.o
  clear HC
  go_wp2_with fail
  refine (HSA'.o w9 HB9.o).mono ?_
  rintro e w10 ⟨rfl, hb⟩
  have HV10 := hq (below_trans HV9.o hb)
  have HB10 := hq (below_trans HB9.o hb)
  clear hb HV9 HB9 a0 a1 a2 a3 b0 b1 b2 b3 HSA'
  obtain ⟨a0, a1, a2, a3⟩ := four_cells (hVC.o w10 HV10.o).1
  obtain ⟨b0, b1, b2, b3⟩ := four_cells (hVC.o w10 HV10.o).2
  go_wp2_with fail
  refine (HEQ.o w10 HB10.o).mono ?_
  rintro e w11 ⟨q, rfl, hq1, hb⟩
  have HV11 := hq (below_trans HV10.o hb)
  have HB11 := hq (below_trans HB10.o hb)
  clear hb HV10 HB10 a0 a1 a2 a3 b0 b1 b2 b3 HEQ
  obtain ⟨a0, a1, a2, a3⟩ := four_cells (hVC.o w11 HV11.o).1
  obtain ⟨b0, b1, b2, b3⟩ := four_cells (hVC.o w11 HV11.o).2
  have hdd := HD.o q hq1
  clear HD hq1
  cases sm <;> cases q
  all_goals
    have HV := hq (HP.o w11 HB11.o)
    clear HP 
    go_wp2_with fail
    first
      | exact HV.o
      | (go_ret
         exact HV.o)
      | trace_state

end Go.Proofs.YtnlkokgekjlmmaaGreatDoor
