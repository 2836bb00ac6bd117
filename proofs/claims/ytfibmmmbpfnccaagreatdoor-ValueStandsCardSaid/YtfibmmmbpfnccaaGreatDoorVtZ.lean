/-
  WALKS: value.Sorted, Copy, Get, Of, Num.
-/
import Derived.Test.YtfibmmmbpfnccaaGreatDoorVtY
namespace Go.Proofs.YtfibmmmbpfnccaaGreatDoor
open Go.RowKit

/-- the tree of no kind -/
def zeroL : Vl := .mk 0 [] [] []
def zeroT : Vt := .mk 0 [] ⟨none, 0, []⟩ none 0 []
theorem zeroT_own (B : Nat) (w : World) : zeroT.Own 25 9 B (fun _ => True) w :=
  .mk _ _ _ _ _ _ (World.ownsRow_nil _ _ _ _) (fun _ _ => trivial) (World.ownsRow_nil _ _ _ _) (fun _ _ => trivial) (fun i hi => absurd hi (Nat.not_lt_zero i))
theorem zeroT_m : zeroT.m = zeroL := by unfold zeroT zeroL; rw [Vt.m_mk]; rfl
theorem below_put4 {B : Nat} {w W : World} (h : Below B w W) {g : Nat} (hg : B ≤ g) (a b c d : Value) : Below B w ((((W.setCell ⟨g, 0, none⟩ a).setCell ⟨g, 1, none⟩ b).setCell ⟨g, 2, none⟩ c).setCell ⟨g, 3, none⟩ d) :=
  below_put (below_put (below_put (below_put h hg 0 a) hg 1 b) hg 2 c) hg 3 d
theorem own_put4 {tV tS : TypeId} {B : Nat} {S : Nat → Prop} {W : World} {y : Vt} (h : y.Own tV tS B S W) {g : Nat} (hg : g < B) (a b c d : Value) : y.Own tV tS B S ((((W.setCell ⟨g, 0, none⟩ a).setCell ⟨g, 1, none⟩ b).setCell ⟨g, 2, none⟩ c).setCell ⟨g, 3, none⟩ d) :=
  (((h.set hg a).set hg b).set hg c).set hg d
set_option maxHeartbeats 8000000 in
set_option maxRecDepth 1000000 in
theorem vSorted_any (x : Vt) (w : World) (hE : Env w) (hx : Fine x w) : Calls Tryz.prog 33 #[x.v] w (RemPost (if openM x.m = true then sortV x.m else zeroL) w) := by
  have HOA := hq (fun V (hV : Below w.heap.size w V) => open_any x V (hE.grow hV) (hx.ok.grow hV) hx.lim (by have := hx.sz; omega))
  have HRM := hq (fun (ho : openM x.m = true) V (hV : Below w.heap.size w V) => remK_any x V (hx.ok.grow hV) ⟨(openM_good ho).1, hx.sz⟩)
  obtain ⟨k, t, ⟨ko, kc, kl⟩, o, c, is⟩ := x
  rw [Vt.v_mk'] at *
  generalize (Vt.mk k t ⟨ko, kc, kl⟩ o c is).m = X at *
  have HP : Hq (∀ (y : Vt) W', y.Own 25 9 w.heap.size (fun _ => True) W' → y.m = (if openM X = true then sortV X else zeroL) → Below w.heap.size w W' → RemPost (if openM X = true then sortV X else zeroL) w (.returned y.v) W') := hq (fun y W' h1 h2 h3 => ⟨y, rfl, h1, h2, h3⟩)
  generalize hR : RemPost (if openM X = true then sortV X else zeroL) w = PP at *
  clear hR
  obtain ⟨hb0, hw0, hw1⟩ := two_boxes w 25 #[.int .i64 k, .string (st t), .slice ko kl.length kc, .slice o is.length c] #[.int .i64 0, .string ⟨#[]⟩, .slice none 0 0, .slice none 0 0]
  have HB0 := hq hb0
  have HW0 := hq hw0
  have HW1 := hq hw1
  have HG1 := hq hw1.lt
  clear hx hE hb0 hw0 hw1
  go_enter Tryz.func33, Tryz.ntmps33
  go_upto_region 1 with fail
  generalize ((w.alloc (.cells #[.int .i64 k, .string (st t), .slice ko kl.length kc, .slice o is.length c] 25)).alloc (.cells #[.int .i64 0, .string ⟨#[]⟩, .slice none 0 0, .slice none 0 0] 25)) = V0 at *
  have HGW : Hq (w.heap.size ≤ w.heap.size + 1) := hq (by omega)
  obtain ⟨c0, c1, c2, c3⟩ := four_cells HW0.o
  have HOC := hq (HOA.o V0 HB0.o)
  clear HOA
  go_wp2_with fail
  refine HOC.o.mono ?_
  rintro e w2 ⟨rfl, hb2⟩
  have HB2 := hq (below_trans HB0.o hb2)
  have HS2 := hq hb2.size
  obtain ⟨d0, d1, d2, d3⟩ := four_cells (HW0.o.grow hb2)
  have HR2 := hq (HW1.o.grow hb2)
  clear hb2 HOC c0 c1 c2 c3
  by_cases ho : openM X = true
  case neg =>
    have hof : openM X = false := by simpa using ho
    obtain ⟨r0, r1, r2, r3⟩ := four_cells HR2.o
    have f0 := HR2.o.free 0
    have f1 := HR2.o.free 1
    have f2 := HR2.o.free 2
    have f3 := HR2.o.free 3
    have HV := hq (HP.o zeroT ((((w2.setCell ⟨w.heap.size + 1, 0, none⟩ (.int .i64 0)).setCell ⟨w.heap.size + 1, 1, none⟩ (.string ⟨#[]⟩)).setCell ⟨w.heap.size + 1, 2, none⟩ (.slice none 0 0)).setCell ⟨w.heap.size + 1, 3, none⟩ (.slice none 0 0)) (zeroT_own _ _) (by rw [zeroT_m, if_neg ho]) (below_put4 HB2.o HGW.o _ _ _ _))
    rw [hof]
    clear HP HRM ho hof
    go_wp2_with fail
    refine bodyPost_ret (v := zeroT.v) ?_ rfl HV.o
    simp [results, Tryz.results33, go_sem, r0, r1, r2, r3, zeroT, Vt.v_mk']
  case pos =>
    have HRC := hq (HRM.o ho w2 HB2.o)
    have HP2 := hq (fun (y : Vt) W' h1 (h2 : y.m = sortV X) h3 => HP.o y W' h1 (by rw [h2, if_pos ho]) h3)
    rw [ho]
    clear HP HRM ho
    go_wp2_with fail
    refine HRC.o.mono ?_
    rintro e w3 ⟨y, rfl, hyo, hym, hb3⟩
    obtain ⟨yk, yt, ⟨yko, ykc, ykl⟩, yo, yc, yis⟩ := y
    have HR3 := hq (HR2.o.grow hb3)
    obtain ⟨r0, r1, r2, r3⟩ := four_cells HR3.o
    have f0 := HR3.o.free 0
    have f1 := HR3.o.free 1
    have f2 := HR3.o.free 2
    have f3 := HR3.o.free 3
    have HV := hq (fun a b c d => HP2.o _ ((((w3.setCell ⟨w.heap.size + 1, 0, none⟩ a).setCell ⟨w.heap.size + 1, 1, none⟩ b).setCell ⟨w.heap.size + 1, 2, none⟩ c).setCell ⟨w.heap.size + 1, 3, none⟩ d) ((own_put4 hyo (show w.heap.size + 1 < w2.heap.size by have := HG1.o; have := HS2.o; omega) a b c d).base (by have := HB2.o.size; omega)) hym (below_put4 (below_trans HB2.o hb3) HGW.o a b c d))
    clear hyo hym hb3 HRC HP2 d0 d1 d2 d3
    rw [Vt.v_mk']
    go_wp2_with fail
    refine bodyPost_ret (v := (Vt.mk yk yt ⟨yko, ykc, ykl⟩ yo yc yis).v) ?_ rfl (HV.o _ _ _ _)
    simp [results, Tryz.results33, go_sem, r0, r1, r2, r3, Vt.v_mk']
set_option maxHeartbeats 8000000 in
set_option maxRecDepth 1000000 in
theorem vCopy_any (x : Vt) (w : World) (hE : Env w) (hx : Fine x w) : Calls Tryz.prog 34 #[x.v] w (RemPost (if openM x.m = true then x.m else zeroL) w) := by
  have HOA := hq (fun V (hV : Below w.heap.size w V) => open_any x V (hE.grow hV) (hx.ok.grow hV) hx.lim (by have := hx.sz; omega))
  have HRM := hq (fun (ho : openM x.m = true) V (hV : Below w.heap.size w V) => remR_any x V (hx.ok.grow hV) ⟨(openM_good ho).1, hx.sz⟩)
  obtain ⟨k, t, ⟨ko, kc, kl⟩, o, c, is⟩ := x
  rw [Vt.v_mk'] at *
  generalize (Vt.mk k t ⟨ko, kc, kl⟩ o c is).m = X at *
  have HP : Hq (∀ (y : Vt) W', y.Own 25 9 w.heap.size (fun _ => True) W' → y.m = (if openM X = true then X else zeroL) → Below w.heap.size w W' → RemPost (if openM X = true then X else zeroL) w (.returned y.v) W') := hq (fun y W' h1 h2 h3 => ⟨y, rfl, h1, h2, h3⟩)
  generalize hR : RemPost (if openM X = true then X else zeroL) w = PP at *
  clear hR
  obtain ⟨hb0, hw0, hw1⟩ := two_boxes w 25 #[.int .i64 k, .string (st t), .slice ko kl.length kc, .slice o is.length c] #[.int .i64 0, .string ⟨#[]⟩, .slice none 0 0, .slice none 0 0]
  have HB0 := hq hb0
  have HW0 := hq hw0
  have HW1 := hq hw1
  have HG1 := hq hw1.lt
  clear hx hE hb0 hw0 hw1
  go_enter Tryz.func34, Tryz.ntmps34
  go_upto_region 1 with fail
  generalize ((w.alloc (.cells #[.int .i64 k, .string (st t), .slice ko kl.length kc, .slice o is.length c] 25)).alloc (.cells #[.int .i64 0, .string ⟨#[]⟩, .slice none 0 0, .slice none 0 0] 25)) = V0 at *
  have HGW : Hq (w.heap.size ≤ w.heap.size + 1) := hq (by omega)
  obtain ⟨c0, c1, c2, c3⟩ := four_cells HW0.o
  have HOC := hq (HOA.o V0 HB0.o)
  clear HOA
  go_wp2_with fail
  refine HOC.o.mono ?_
  rintro e w2 ⟨rfl, hb2⟩
  have HB2 := hq (below_trans HB0.o hb2)
  have HS2 := hq hb2.size
  obtain ⟨d0, d1, d2, d3⟩ := four_cells (HW0.o.grow hb2)
  have HR2 := hq (HW1.o.grow hb2)
  clear hb2 HOC c0 c1 c2 c3
  by_cases ho : openM X = true
  case neg =>
    have hof : openM X = false := by simpa using ho
    obtain ⟨r0, r1, r2, r3⟩ := four_cells HR2.o
    have f0 := HR2.o.free 0
    have f1 := HR2.o.free 1
    have f2 := HR2.o.free 2
    have f3 := HR2.o.free 3
    have HV := hq (HP.o zeroT ((((w2.setCell ⟨w.heap.size + 1, 0, none⟩ (.int .i64 0)).setCell ⟨w.heap.size + 1, 1, none⟩ (.string ⟨#[]⟩)).setCell ⟨w.heap.size + 1, 2, none⟩ (.slice none 0 0)).setCell ⟨w.heap.size + 1, 3, none⟩ (.slice none 0 0)) (zeroT_own _ _) (by rw [zeroT_m, if_neg ho]) (below_put4 HB2.o HGW.o _ _ _ _))
    rw [hof]
    clear HP HRM ho hof
    go_wp2_with fail
    refine bodyPost_ret (v := zeroT.v) ?_ rfl HV.o
    simp [results, Tryz.results34, go_sem, r0, r1, r2, r3, zeroT, Vt.v_mk']
  case pos =>
    have HRC := hq (HRM.o ho w2 HB2.o)
    have HP2 := hq (fun (y : Vt) W' h1 (h2 : y.m = X) h3 => HP.o y W' h1 (by rw [h2, if_pos ho]) h3)
    rw [ho]
    clear HP HRM ho
    go_wp2_with fail
    refine HRC.o.mono ?_
    rintro e w3 ⟨y, rfl, hyo, hym, hb3⟩
    obtain ⟨yk, yt, ⟨yko, ykc, ykl⟩, yo, yc, yis⟩ := y
    have HR3 := hq (HR2.o.grow hb3)
    obtain ⟨r0, r1, r2, r3⟩ := four_cells HR3.o
    have f0 := HR3.o.free 0
    have f1 := HR3.o.free 1
    have f2 := HR3.o.free 2
    have f3 := HR3.o.free 3
    have HV := hq (fun a b c d => HP2.o _ ((((w3.setCell ⟨w.heap.size + 1, 0, none⟩ a).setCell ⟨w.heap.size + 1, 1, none⟩ b).setCell ⟨w.heap.size + 1, 2, none⟩ c).setCell ⟨w.heap.size + 1, 3, none⟩ d) ((own_put4 hyo (show w.heap.size + 1 < w2.heap.size by have := HG1.o; have := HS2.o; omega) a b c d).base (by have := HB2.o.size; omega)) hym (below_put4 (below_trans HB2.o hb3) HGW.o a b c d))
    clear hyo hym hb3 HRC HP2 d0 d1 d2 d3
    rw [Vt.v_mk']
    go_wp2_with fail
    refine bodyPost_ret (v := (Vt.mk yk yt ⟨yko, ykc, ykl⟩ yo yc yis).v) ?_ rfl (HV.o _ _ _ _)
    simp [results, Tryz.results34, go_sem, r0, r1, r2, r3, Vt.v_mk']
end Go.Proofs.YtfibmmmbpfnccaaGreatDoor
