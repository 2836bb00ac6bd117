/-
  WALKS: value.Compare, Same.
-/
import Derived.Test.YtfibmmmbpfnccaaGreatDoorVtV
namespace Go.Proofs.YtfibmmmbpfnccaaGreatDoor
open Go.RowKit

theorem openM_good {v : Vl} (h : openM v = true) : Good v ∧ v.size ≤ 4096 ∧ v.depth ≤ 32 := by
  unfold openM at h
  simp only [Bool.and_eq_true, decide_eq_true_eq] at h
  exact ⟨h.2.2, h.1, h.2.1⟩
/-- a tree that the layers take -/
structure Fine (x : Vt) (w : World) : Prop where
  ok : x.Ok w
  lim : x.m.All Lim
  sz : x.m.size ≤ 1000000
theorem Fine.grow {x : Vt} {w w' : World} (h : Fine x w) (hb : Below w.heap.size w w') : Fine x w' := ⟨h.ok.grow hb, h.lim, h.sz⟩
theorem cmp_open (x y : Vt) (w : World) (hE : Env w) (hx : Fine x w) (hy : Fine y w) (ox : openM x.m = true) (oy : openM y.m = true) : Calls Tryz.prog 79 #[x.v, y.v] w (IPost (cmpS x.m y.m) w) :=
  vcompare_any x y w hE hx.ok hy.ok (openM_good ox).1 (openM_good oy).1 hx.lim hy.lim hx.sz hy.sz
set_option maxHeartbeats 8000000 in
set_option maxRecDepth 1000000 in
theorem vCompare_any (x y : Vt) (w : World) (hE : Env w) (hx : Fine x w) (hy : Fine y w) : Calls Tryz.prog 39 #[x.v, y.v] w (IPost (compM x.m y.m) w) := by
  have HCX := hq (fun (ox : openM x.m = true) (oy : openM y.m = true) V (hV : Below w.heap.size w V) => cmp_open x y V (hE.grow hV) (hx.grow hV) (hy.grow hV) ox oy)
  have HOA := hq (fun V (hV : Below w.heap.size w V) => open_any x V (hE.grow hV) (hx.ok.grow hV) hx.lim (by have := hx.sz; omega))
  have HOB := hq (fun V (hV : Below w.heap.size w V) => open_any y V (hE.grow hV) (hy.ok.grow hV) hy.lim (by have := hy.sz; omega))
  obtain ⟨k, t, ⟨ko, kc, kl⟩, o, c, is⟩ := x
  obtain ⟨k', t', ⟨ko', kc', kl'⟩, o', c', is'⟩ := y
  have HCD : Hq (compM (Vt.mk k t ⟨ko, kc, kl⟩ o c is).m (Vt.mk k' t' ⟨ko', kc', kl'⟩ o' c' is').m = if openM (Vt.mk k t ⟨ko, kc, kl⟩ o c is).m = true then (if openM (Vt.mk k' t' ⟨ko', kc', kl'⟩ o' c' is').m = true then cmpS (Vt.mk k t ⟨ko, kc, kl⟩ o c is).m (Vt.mk k' t' ⟨ko', kc', kl'⟩ o' c' is').m else 1) else (if openM (Vt.mk k' t' ⟨ko', kc', kl'⟩ o' c' is').m = true then -1 else 0)) := hq rfl
  rw [Vt.v_mk'] at *
  rw [Vt.v_mk'] at *
  generalize (Vt.mk k t ⟨ko, kc, kl⟩ o c is).m = X at *
  generalize (Vt.mk k' t' ⟨ko', kc', kl'⟩ o' c' is').m = Y at *
  have HP : Hq (∀ (m : Int) W', m = compM X Y → Below w.heap.size w W' → IPost (compM X Y) w (.returned (.int .i64 m)) W') := hq (fun m W' h h2 => ⟨by rw [h], h2⟩)
  generalize compM X Y = CM at *
  generalize IPost CM w = PP at *
  obtain ⟨hb0, hw0, hw1⟩ := two_boxes w 25 #[.int .i64 k, .string (st t), .slice ko kl.length kc, .slice o is.length c] #[.int .i64 k', .string (st t'), .slice ko' kl'.length kc', .slice o' is'.length c']
  have HB0 := hq hb0
  have HW0 := hq hw0
  have HW1 := hq hw1
  clear hx hy hE hb0 hw0 hw1
  go_enter Tryz.func39, Tryz.ntmps39
  go_upto_region 1 with fail
  generalize w.heap.size = g at HW0 HW1
  generalize ((w.alloc (.cells #[.int .i64 k, .string (st t), .slice ko kl.length kc, .slice o is.length c] 25)).alloc (.cells #[.int .i64 k', .string (st t'), .slice ko' kl'.length kc', .slice o' is'.length c'] 25)) = V0 at *
  have hVg := hq (fun wr (hb : Below V0.heap.size V0 wr) => four_cells (HW0.o.grow hb))
  have hVh := hq (fun wr (hb : Below V0.heap.size V0 wr) => four_cells (HW1.o.grow hb))
  generalize openM X = ox at *
  generalize openM Y = oy at *
  generalize cmpS X Y = cc at *
  go_cut [5, 6] from 7 to 10 (fun a b wx => a = .bool ox ∧ b = .bool oy ∧ Hq (Below V0.heap.size V0 wx))
  case first =>
    have HS := hq (fun V (hb : Below V0.heap.size V0 V) => And.intro (hVg.o V hb) (hVh.o V hb))
    obtain ⟨⟨a0, a1, a2, a3⟩, b0, b1, b2, b3⟩ := HS.o V0 (Below.refl _ _)
    have HBY : Hq (∀ (V : World) (A : Value) (r : Bool), ((A = .agg #[.int .i64 k, .string (st t), .slice ko kl.length kc, .slice o is.length c] ∧ r = ox) ∨ (A = .agg #[.int .i64 k', .string (st t'), .slice ko' kl'.length kc', .slice o' is'.length c'] ∧ r = oy)) → Below V0.heap.size V0 V → Calls Tryz.prog 23 #[A] V (BPost r V)) := hq (fun V A r h hb => by
      rcases h with ⟨rfl, rfl⟩ | ⟨rfl, rfl⟩
      · exact HOA.o V (below_trans HB0.o hb)
      · exact HOB.o V (below_trans HB0.o hb))
    have HBD := hq ((Below.refl V0.heap.size V0).drew)
    clear HOA HOB HP HCX HCD
    go_region_with (go_at_call 23; refine (HBY.o _ _ _ (by first | exact .inl ⟨rfl, rfl⟩ | exact .inr ⟨rfl, rfl⟩) (by first | exact HBD.o | exact HB9.o)).mono ?_; rintro e9 w9 ⟨rfl, hb9⟩; have HB9 := hq (show Below V0.heap.size V0 w9 from by first | exact below_trans HB9.o hb9 | exact below_trans HBD.o hb9); obtain ⟨⟨a0, a1, a2, a3⟩, b0, b1, b2, b3⟩ := HS.o w9 HB9.o; clear hb9)
    all_goals
      go_wp2_with fail
      go_meet
      exact ⟨rfl, rfl, HB9⟩
  case rest =>
    obtain ⟨rfl, rfl, HBC⟩ := hcut
    obtain ⟨c0, c1, c2, c3⟩ := hVg.o wc HBC.o
    obtain ⟨d0, d1, d2, d3⟩ := hVh.o wc HBC.o
    have HBW := hq (below_trans HB0.o HBC.o)
    clear HOA HOB hVg hVh
    cases ox with
    | true =>
      cases oy with
      | true =>
        have HCC := hq (HCX.o (by first | rfl | trivial) (by first | rfl | trivial) wc HBW.o)
        clear HCX
        go_wp2_with fail
        refine HCC.o.mono ?_
        rintro e w2 ⟨rfl, hb2⟩
        have HV := hq (HP.o cc w2 HCD.o.symm (below_trans HBW.o hb2))
        clear hb2 HP HCD HCC
        go_wp2_with fail
        exact HV.o
      | false =>
        have HV := hq (HP.o 1 wc HCD.o.symm HBW.o)
        clear HCX HP HCD
        go_wp2_with fail
        exact HV.o
    | false =>
      cases oy with
      | true =>
        have HV := hq (HP.o (-1) wc HCD.o.symm HBW.o)
        clear HCX HP HCD
        go_wp2_with fail
        exact HV.o
      | false =>
        have HV := hq (HP.o 0 wc HCD.o.symm HBW.o)
        clear HCX HP HCD
        go_wp2_with fail
        exact HV.o
set_option maxHeartbeats 8000000 in
set_option maxRecDepth 1000000 in
theorem vSame_any (x y : Vt) (w : World) (hE : Env w) (hx : Fine x w) (hy : Fine y w) : Calls Tryz.prog 37 #[x.v, y.v] w (BPost (sameM x.m y.m) w) := by
  have HCX := hq (fun (ox : openM x.m = true) (oy : openM y.m = true) V (hV : Below w.heap.size w V) => cmp_open x y V (hE.grow hV) (hx.grow hV) (hy.grow hV) ox oy)
  have HOA := hq (fun V (hV : Below w.heap.size w V) => open_any x V (hE.grow hV) (hx.ok.grow hV) hx.lim (by have := hx.sz; omega))
  have HOB := hq (fun V (hV : Below w.heap.size w V) => open_any y V (hE.grow hV) (hy.ok.grow hV) hy.lim (by have := hy.sz; omega))
  obtain ⟨k, t, ⟨ko, kc, kl⟩, o, c, is⟩ := x
  obtain ⟨k', t', ⟨ko', kc', kl'⟩, o', c', is'⟩ := y
  have HCD : Hq (sameM (Vt.mk k t ⟨ko, kc, kl⟩ o c is).m (Vt.mk k' t' ⟨ko', kc', kl'⟩ o' c' is').m = (openM (Vt.mk k t ⟨ko, kc, kl⟩ o c is).m && (openM (Vt.mk k' t' ⟨ko', kc', kl'⟩ o' c' is').m && decide (cmpS (Vt.mk k t ⟨ko, kc, kl⟩ o c is).m (Vt.mk k' t' ⟨ko', kc', kl'⟩ o' c' is').m = 0)))) := hq rfl
  rw [Vt.v_mk'] at *
  rw [Vt.v_mk'] at *
  generalize (Vt.mk k t ⟨ko, kc, kl⟩ o c is).m = X at *
  generalize (Vt.mk k' t' ⟨ko', kc', kl'⟩ o' c' is').m = Y at *
  have HP : Hq (∀ (m : Bool) W', m = sameM X Y → Below w.heap.size w W' → BPost (sameM X Y) w (.returned (.bool m)) W') := hq (fun m W' h h2 => ⟨by rw [h], h2⟩)
  generalize sameM X Y = CM at *
  generalize BPost CM w = PP at *
  obtain ⟨hb0, hw0, hw1⟩ := two_boxes w 25 #[.int .i64 k, .string (st t), .slice ko kl.length kc, .slice o is.length c] #[.int .i64 k', .string (st t'), .slice ko' kl'.length kc', .slice o' is'.length c']
  have HB0 := hq hb0
  have HW0 := hq hw0
  have HW1 := hq hw1
  clear hx hy hE hb0 hw0 hw1
  go_enter Tryz.func37, Tryz.ntmps37
  go_upto_region 1 with fail
  generalize w.heap.size = g at HW0 HW1
  generalize ((w.alloc (.cells #[.int .i64 k, .string (st t), .slice ko kl.length kc, .slice o is.length c] 25)).alloc (.cells #[.int .i64 k', .string (st t'), .slice ko' kl'.length kc', .slice o' is'.length c'] 25)) = V0 at *
  have hVg := hq (fun wr (hb : Below V0.heap.size V0 wr) => four_cells (HW0.o.grow hb))
  have hVh := hq (fun wr (hb : Below V0.heap.size V0 wr) => four_cells (HW1.o.grow hb))
  generalize openM X = ox at *
  generalize openM Y = oy at *
  generalize cmpS X Y = cc at *
  obtain ⟨c0, c1, c2, c3⟩ := hVg.o V0 (Below.refl _ _)
  have HAC := hq (HOA.o V0 HB0.o)
  clear HOA
  go_wp2_with fail
  refine HAC.o.mono ?_
  rintro e w2 ⟨rfl, hb2⟩
  have HB2 := hq (below_trans HB0.o hb2)
  have HV2 := hq hb2
  obtain ⟨d0, d1, d2, d3⟩ := hVh.o w2 hb2
  clear hb2 HAC c0 c1 c2 c3
  cases ox with
  | false =>
    have HV := hq (HP.o false w2 HCD.o.symm HB2.o)
    clear HP HCD HCX HOB
    go_wp2_with fail
    exact HV.o
  | true =>
    have HBC := hq (HOB.o w2 HB2.o)
    clear HOB
    go_wp2_with fail
    refine HBC.o.mono ?_
    rintro e w3 ⟨rfl, hb3⟩
    have HB3 := hq (below_trans HB2.o hb3)
    obtain ⟨c0, c1, c2, c3⟩ := hVg.o w3 (below_trans HV2.o hb3)
    obtain ⟨e0, e1, e2, e3⟩ := hVh.o w3 (below_trans HV2.o hb3)
    clear hb3 HBC d0 d1 d2 d3
    cases oy with
    | false =>
      have HV := hq (HP.o false w3 HCD.o.symm HB3.o)
      clear HP HCD HCX
      go_wp2_with fail
      exact HV.o
    | true =>
      have HCC := hq (HCX.o (by first | rfl | trivial) (by first | rfl | trivial) w3 HB3.o)
      clear HCX
      go_wp2_with fail
      refine HCC.o.mono ?_
      rintro e w4 ⟨rfl, hb4⟩
      have HV := hq (HP.o (cc == 0) w4 (by
        rw [HCD.o]
        by_cases h : cc = 0 <;> simp [h]) (below_trans HB3.o hb4))
      clear HP HCD HCC hb4
      go_wp2_with fail
      all_goals exact HV.o
end Go.Proofs.YtfibmmmbpfnccaaGreatDoor
