/-
  WALK: the law ValueOrders, over what small answers.
-/
import Derived.Test.YtfibmmmbpfnccaaGreatDoorVtX
namespace Go.Proofs.YtfibmmmbpfnccaaGreatDoor
open Go.RowKit

theorem few_fine {x : Vt} {w : World} {n : Nat} (hok : x.Ok w) (h : FewV x.m n) (hn : n ≤ 1000000) : Fine x w :=
  ⟨hok, h.sh.mono (fun v hv => ⟨Nat.le_trans hv.1 (by decide), fun k hk => Nat.le_trans (hv.2 k hk) (by decide)⟩), Nat.le_trans (x.m.size_weight) (Nat.le_trans h.wt hn)⟩
/-- small answers true -/
def SmallAt (w : World) : Prop := ∀ V, Below w.heap.size w V → Calls Tryz.prog 14 #[] V (BPost true V)
set_option maxHeartbeats 16000000 in
set_option maxRecDepth 1000000 in
theorem orders_any (x y z : Vt) (w : World) (hE : Env w) (hsm : SmallAt w) (hx : x.Ok w) (hy : y.Ok w) (hz : z.Ok w) :
    Calls Tryz.prog 5 #[x.v, y.v, z.v] w (BPost true w) := by
  have HSM := hq hsm
  have HFX := hq (fun V (hV : Below w.heap.size w V) => few1_any x 200 V (hx.grow hV) (by decide))
  have HFY := hq (fun V (hV : Below w.heap.size w V) => few1_any y 200 V (hy.grow hV) (by decide))
  have HFZ := hq (fun V (hV : Below w.heap.size w V) => few1_any z 200 V (hz.grow hV) (by decide))
  have HCM : Hq (∀ (p q : Vt), p.Ok w → q.Ok w → FewV p.m 200 → FewV q.m 200 → ∀ V, Below w.heap.size w V → Calls Tryz.prog 39 #[p.v, q.v] V (IPost (compM p.m q.m) V)) := hq (fun p q hp hq' h1 h2 V hV => vCompare_any p q V (hE.grow hV) (few_fine (hp.grow hV) h1 (by decide)) (few_fine (hq'.grow hV) h2 (by decide)))
  have HXY := hq (HCM.o x y hx hy)
  have HYZ := hq (HCM.o y z hy hz)
  have HXZ := hq (HCM.o x z hx hz)
  have HYX := hq (HCM.o y x hy hx)
  have HXX := hq (HCM.o x x hx hx)
  have HOX := hq (fun (h : FewV x.m 200) V (hV : Below w.heap.size w V) => open_any x V (hE.grow hV) (hx.grow hV) (few_fine hx h (by decide)).lim (by have := (few_fine hx h (by decide)).sz; omega))
  have HOY := hq (fun (h : FewV y.m 200) V (hV : Below w.heap.size w V) => open_any y V (hE.grow hV) (hy.grow hV) (few_fine hy h (by decide)).lim (by have := (few_fine hy h (by decide)).sz; omega))
  have HSA := hq (fun (h1 : FewV x.m 200) (h2 : FewV y.m 200) V (hV : Below w.heap.size w V) => vSame_any x y V (hE.grow hV) (few_fine (hx.grow hV) h1 (by decide)) (few_fine (hy.grow hV) h2 (by decide)))
  clear hE hsm hx hy hz HCM
  have B1 := hq (compM_bd x.m y.m)
  have B2 := hq (compM_swap x.m y.m)
  have B3 := hq (compM_self x.m)
  have B4 := hq (compM_trans x.m y.m z.m)
  have B5 : Hq (openM x.m = true → openM y.m = true → (compM x.m y.m == 0) = sameM x.m y.m) := hq (fun h1 h2 => by
    unfold compM sameM
    rw [if_pos h1, if_pos h2, h1, h2, Bool.true_and, Bool.true_and]
    by_cases h : cmpV (sortV x.m) (sortV y.m) = 0 <;> simp [h])
  obtain ⟨k, t, ⟨ko, kc, kl⟩, o, c, is⟩ := x
  obtain ⟨k', t', ⟨ko', kc', kl'⟩, o', c', is'⟩ := y
  obtain ⟨k2, t2, ⟨ko2, kc2, kl2⟩, o2, c2, is2⟩ := z
  rw [Vt.v_mk'] at *
  rw [Vt.v_mk'] at *
  rw [Vt.v_mk'] at *
  generalize (Vt.mk k t ⟨ko, kc, kl⟩ o c is).m = X at *
  generalize (Vt.mk k' t' ⟨ko', kc', kl'⟩ o' c' is').m = Y at *
  generalize (Vt.mk k2 t2 ⟨ko2, kc2, kl2⟩ o2 c2 is2).m = Z at *
  have HP : Hq (∀ W', Below w.heap.size w W' → BPost true w (.returned (.bool true)) W') := hq (fun W' h => ⟨rfl, h⟩)
  generalize BPost true w = PP at *
  obtain ⟨hb0, hw0, hw1, hw2⟩ := three_boxes w 25 #[.int .i64 k, .string (st t), .slice ko kl.length kc, .slice o is.length c] #[.int .i64 k', .string (st t'), .slice ko' kl'.length kc', .slice o' is'.length c'] #[.int .i64 k2, .string (st t2), .slice ko2 kl2.length kc2, .slice o2 is2.length c2]
  have HB0 := hq hb0
  have HW0 := hq hw0
  have HW1 := hq hw1
  have HW2 := hq hw2
  clear hb0 hw0 hw1 hw2
  go_enter Tryz.func5, Tryz.ntmps5
  go_upto_region 1 with fail
  generalize w.heap.size = g at HW0 HW1 HW2
  generalize (((w.alloc (.cells #[.int .i64 k, .string (st t), .slice ko kl.length kc, .slice o is.length c] 25)).alloc (.cells #[.int .i64 k', .string (st t'), .slice ko' kl'.length kc', .slice o' is'.length c'] 25)).alloc (.cells #[.int .i64 k2, .string (st t2), .slice ko2 kl2.length kc2, .slice o2 is2.length c2] 25)) = V0 at *
  have hVC := hq (fun wr (hb : Below V0.heap.size V0 wr) => And.intro (four_cells (HW0.o.grow hb)) (And.intro (four_cells (HW1.o.grow hb)) (four_cells (HW2.o.grow hb))))
  clear HW0 HW1 HW2
  have HSC := hq (HSM.o V0 HB0.o)
  clear HSM
  go_wp2_with fail
  refine HSC.o.mono ?_
  rintro e w1 ⟨rfl, hb1⟩
  have HV1 := hq hb1
  have HB1 := hq (below_trans HB0.o hb1)
  obtain ⟨⟨a0, a1, a2, a3⟩, ⟨b0, b1, b2, b3⟩, e0, e1, e2, e3⟩ := hVC.o w1 hb1
  clear hb1 HSC
  go_wp2_with fail
  refine (HFX.o w1 HB1.o).mono ?_
  rintro e w2 ⟨fx, rfl, hfx, hb2⟩
  have HV2 := hq (below_trans HV1.o hb2)
  have HB2 := hq (below_trans HB1.o hb2)
  have HHX := hq hfx
  clear hb2 hfx HFX a0 a1 a2 a3 b0 b1 b2 b3 e0 e1 e2 e3
  obtain ⟨⟨a0, a1, a2, a3⟩, ⟨b0, b1, b2, b3⟩, e0, e1, e2, e3⟩ := hVC.o w2 HV2.o
  cases fx with
  | false =>
    have HV := hq (HP.o w2 HB2.o)
    clear HFY HFZ HXY HYZ HXZ HYX HXX HOX HOY HSA HP
    go_wp2_with fail
    exact HV.o
  | true =>
  have HFX' := hq (HHX.o rfl)
  clear HHX
  go_wp2_with fail
  refine (HFY.o w2 HB2.o).mono ?_
  rintro e w3 ⟨fy, rfl, hfy, hb3⟩
  have HV3 := hq (below_trans HV2.o hb3)
  have HB3 := hq (below_trans HB2.o hb3)
  have HHY := hq hfy
  clear hb3 hfy HFY a0 a1 a2 a3 b0 b1 b2 b3 e0 e1 e2 e3
  obtain ⟨⟨a0, a1, a2, a3⟩, ⟨b0, b1, b2, b3⟩, e0, e1, e2, e3⟩ := hVC.o w3 HV3.o
  cases fy with
  | false =>
    have HV := hq (HP.o w3 HB3.o)
    clear HFZ HXY HYZ HXZ HYX HXX HOX HOY HSA HP
    go_wp2_with fail
    exact HV.o
  | true =>
  have HFY' := hq (HHY.o rfl)
  clear HHY
  go_wp2_with fail
  refine (HFZ.o w3 HB3.o).mono ?_
  rintro e w4 ⟨fz, rfl, hfz, hb4⟩
  have HV4 := hq (below_trans HV3.o hb4)
  have HB4 := hq (below_trans HB3.o hb4)
  have HHZ := hq hfz
  clear hb4 hfz HFZ a0 a1 a2 a3 b0 b1 b2 b3 e0 e1 e2 e3
  obtain ⟨⟨a0, a1, a2, a3⟩, ⟨b0, b1, b2, b3⟩, e0, e1, e2, e3⟩ := hVC.o w4 HV4.o
  cases fz with
  | false =>
    have HV := hq (HP.o w4 HB4.o)
    clear HXY HYZ HXZ HYX HXX HOX HOY HSA HP
    go_wp2_with fail
    exact HV.o
  | true =>
  have HFZ' := hq (HHZ.o rfl)
  have HXY' := hq (HXY.o HFX'.o HFY'.o)
  have HYZ' := hq (HYZ.o HFY'.o HFZ'.o)
  have HXZ' := hq (HXZ.o HFX'.o HFZ'.o)
  have HYX' := hq (HYX.o HFY'.o HFX'.o)
  have HXX' := hq (HXX.o HFX'.o HFX'.o)
  have HOX' := hq (HOX.o HFX'.o)
  have HOY' := hq (HOY.o HFY'.o)
  have HSA' := hq (HSA.o HFX'.o HFY'.o)
  clear HHZ HXY HYZ HXZ HYX HXX HOX HOY HSA HFX' HFY' HFZ'
  generalize compM X Y = cxy at *
  generalize compM Y Z = cyz at *
  generalize compM X Z = cxz at *
  generalize compM Y X = cyx at *
  generalize compM X X = cxx at *
  generalize openM X = ox at *
  generalize openM Y = oy at *
  generalize sameM X Y = sxy at *
  go_wp2_with fail
  refine (HXY'.o w4 HB4.o).mono ?_
  rintro e w5 ⟨rfl, hb5⟩
  have HV5 := hq (below_trans HV4.o hb5)
  have HB5 := hq (below_trans HB4.o hb5)
  clear hb5 HXY' a0 a1 a2 a3 b0 b1 b2 b3 e0 e1 e2 e3
  obtain ⟨⟨a0, a1, a2, a3⟩, ⟨b0, b1, b2, b3⟩, e0, e1, e2, e3⟩ := hVC.o w5 HV5.o
  go_wp2_with fail
  refine (HYZ'.o w5 HB5.o).mono ?_
  rintro e w6 ⟨rfl, hb6⟩
  have HV6 := hq (below_trans HV5.o hb6)
  have HB6 := hq (below_trans HB5.o hb6)
  clear hb6 HYZ' a0 a1 a2 a3 b0 b1 b2 b3 e0 e1 e2 e3
  obtain ⟨⟨a0, a1, a2, a3⟩, ⟨b0, b1, b2, b3⟩, e0, e1, e2, e3⟩ := hVC.o w6 HV6.o
  go_wp2_with fail
  refine (HXZ'.o w6 HB6.o).mono ?_
  rintro e w7 ⟨rfl, hb7⟩
  have HV7 := hq (below_trans HV6.o hb7)
  have HB7 := hq (below_trans HB6.o hb7)
  clear hb7 HXZ' a0 a1 a2 a3 b0 b1 b2 b3 e0 e1 e2 e3
  obtain ⟨⟨a0, a1, a2, a3⟩, ⟨b0, b1, b2, b3⟩, e0, e1, e2, e3⟩ := hVC.o w7 HV7.o
  have h1 : ¬ cxy < -1 := by have := B1.o; omega
  have h2 : ¬ (1 : Int) < cxy := by have := B1.o; omega
  have hn : IntKind.i64.wrap (-cxy) = -cxy := IntWalk.i64_in _ (by have := B1.o; omega)
  go_wp2_with fail
  refine (HYX'.o w7 HB7.o).mono ?_
  rintro e w8 ⟨rfl, hb8⟩
  have HV8 := hq (below_trans HV7.o hb8)
  have HB8 := hq (below_trans HB7.o hb8)
  clear hb8 HYX' a0 a1 a2 a3 b0 b1 b2 b3 e0 e1 e2 e3
  obtain ⟨⟨a0, a1, a2, a3⟩, ⟨b0, b1, b2, b3⟩, e0, e1, e2, e3⟩ := hVC.o w8 HV8.o
  have h3 : (cyx != -cxy) = false := by rw [bne, beq_iff_eq.2 B2.o]; rfl
  go_wp2_with fail
  refine (HXX'.o w8 HB8.o).mono ?_
  rintro e w9 ⟨rfl, hb9⟩
  have HV9 := hq (below_trans HV8.o hb9)
  have HB9 := hq (below_trans HB8.o hb9)
  clear hb9 HXX' a0 a1 a2 a3 b0 b1 b2 b3 e0 e1 e2 e3
  obtain ⟨⟨a0, a1, a2, a3⟩, ⟨b0, b1, b2, b3⟩, e0, e1, e2, e3⟩ := hVC.o w9 HV9.o
  have h4 : (cxx != 0) = false := by rw [bne, beq_iff_eq.2 B3.o]; rfl
  have hlast : (decide (cxy ≤ 0) && decide (cyz ≤ 0) && decide (0 < cxz)) = false := by
    have := B4.o
    by_cases q1 : cxy ≤ 0
    · by_cases q2 : cyz ≤ 0
      · have := this q1 q2
        simp [q1, q2]; omega
      · simp [q2]
    · simp [q1]
  have hc : (cxy ≤ 0 ∧ cyz ≤ 0 ∧ ¬ 0 < cxz) ∨ (cxy ≤ 0 ∧ ¬ cyz ≤ 0) ∨ ¬ cxy ≤ 0 := by
    have := B4.o
    by_cases q1 : cxy ≤ 0
    · by_cases q2 : cyz ≤ 0
      · exact .inl ⟨q1, q2, by have := this q1 q2; omega⟩
      · exact .inr (.inl ⟨q1, q2⟩)
    · exact .inr (.inr q1)
  clear hlast B1 B2 B3 B4
  rcases hc with ⟨p1, p2, p3⟩ | ⟨p1, p2⟩ | p1 <;>
  ( go_wp2_with fail
    refine (HOX'.o w9 HB9.o).mono ?_
    rintro e wa ⟨rfl, hba⟩
    have HVa := hq (below_trans HV9.o hba)
    have HBa := hq (below_trans HB9.o hba)
    clear hba HOX' a0 a1 a2 a3 b0 b1 b2 b3 e0 e1 e2 e3
    obtain ⟨⟨a0, a1, a2, a3⟩, ⟨b0, b1, b2, b3⟩, e0, e1, e2, e3⟩ := hVC.o wa HVa.o
    cases ox with
    | false =>
      have HV := hq (HP.o wa HBa.o)
      clear HOY' HSA' HP B5
      go_wp2_with fail
      exact HV.o
    | true =>
    go_wp2_with fail
    refine (HOY'.o wa HBa.o).mono ?_
    rintro e wb ⟨rfl, hbb⟩
    have HVb := hq (below_trans HVa.o hbb)
    have HBb := hq (below_trans HBa.o hbb)
    clear hbb HOY' a0 a1 a2 a3 b0 b1 b2 b3 e0 e1 e2 e3
    obtain ⟨⟨a0, a1, a2, a3⟩, ⟨b0, b1, b2, b3⟩, e0, e1, e2, e3⟩ := hVC.o wb HVb.o
    cases oy with
    | false =>
      have HV := hq (HP.o wb HBb.o)
      clear HSA' HP B5
      go_wp2_with fail
      exact HV.o
    | true =>
    have h5 : (cxy == 0) = sxy := by first | exact B5.o rfl rfl | exact B5.o True.intro True.intro | exact B5.o trivial rfl | simpa using B5.o
    clear B5
    go_wp2_with fail
    refine (HSA'.o wb HBb.o).mono ?_
    rintro e wc ⟨rfl, hbc⟩
    have HV := hq (HP.o wc (below_trans HBb.o hbc))
    have h6 : ((cxy == 0) == sxy) = true := by rw [h5]; exact beq_self_eq_true _
    clear HSA' HP
    go_wp2_with fail
    exact HV.o )
end Go.Proofs.YtfibmmmbpfnccaaGreatDoor
