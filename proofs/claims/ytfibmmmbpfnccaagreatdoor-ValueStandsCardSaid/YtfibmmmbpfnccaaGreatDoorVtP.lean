/-
  WALKS: value.fits, Open, Right.
-/
import Derived.Test.YtfibmmmbpfnccaaGreatDoorVtO
namespace Go.Proofs.YtfibmmmbpfnccaaGreatDoor
open Go.RowKit

set_option maxHeartbeats 8000000 in
set_option maxRecDepth 1000000 in
theorem fits_any (A : Nat) (askM : Vl → Bool) (hca : ∀ (args : Array Value) (w : World), (callFunc A args).run Tryz.prog w = .ok (.enter A args) w) (hask : ∀ (x : Vt) (W : World), Calls Tryz.prog A #[x.v] W (BPost (askM x.m) W))
    (x : Vt) (w : World) (hE : Env w) (hok : x.Ok w) (hlim : x.m.All Lim) (hs : x.m.size ≤ 1000000000) :
    Calls Tryz.prog 66 #[x.v, .func (.func A) #[] #[]] w (BPost (decide (x.m.size ≤ 4096) && (decide (x.m.depth ≤ 32) && x.m.allB (fun v => nodeM v && askM v))) w) := by
  have HP : Hq (∀ (b : Bool) W', b = (decide (x.m.size ≤ 4096) && (decide (x.m.depth ≤ 32) && x.m.allB (fun v => nodeM v && askM v))) → Below w.heap.size w W' → BPost (decide (x.m.size ≤ 4096) && (decide (x.m.depth ≤ 32) && x.m.allB (fun v => nodeM v && askM v))) w (.returned (.bool b)) W') := hq (fun b W' h h2 => ⟨by rw [h], h2⟩)
  have hds := x.m.depth_size
  have HGV : Hq ((goV (fun pre y => decide (pre.length + 1 ≤ 4096) && (decide (y.2 ≤ 32) && (nodeM y.1 && askM y.1))) [] (x.m.visits 1)).1 = (decide (x.m.size ≤ 4096) && (decide (x.m.depth ≤ 32) && x.m.allB (fun v => nodeM v && askM v)))) := hq (by
    have h := goV_fits (fun v => nodeM v && askM v) 4096 32 x.m 1
    rw [h]
    have e : decide (1 + x.m.depth ≤ 32 + 1) = decide (x.m.depth ≤ 32) := decide_eq_decide.2 (by omega)
    rw [e])
  generalize BPost (decide (x.m.size ≤ 4096) && (decide (x.m.depth ≤ 32) && x.m.allB (fun v => nodeM v && askM v))) w = PP at *
  have hb0 := below_alloc w (.cells #[.int .i64 x.k, .string (st x.t), x.ks.v, x.row] 25)
  have hw0 := Whole.made w 25 #[.int .i64 x.k, .string (st x.t), x.ks.v, x.row]
  have hw1 := Whole.made (w.alloc (.cells #[.int .i64 x.k, .string (st x.t), x.ks.v, x.row] 25)) 33 #[.func (.func A) #[] #[]]
  have hb1 := below_trans hb0 (below_alloc (w.alloc (.cells #[.int .i64 x.k, .string (st x.t), x.ks.v, x.row] 25)) (.cells #[.func (.func A) #[] #[]] 33))
  have hw2 := hw0.alloc (.cells #[.func (.func A) #[] #[]] 33)
  rw [World.size_alloc] at hw1
  have HOK := hq (hok.grow hb1)
  have HE := hq (hE.grow hb1)
  unfold Vt.v
  go_enter Tryz.func66, Tryz.ntmps66
  go_upto_region 1 with fail
  generalize ((w.alloc (.cells #[.int .i64 x.k, .string (st x.t), x.ks.v, x.row] 25)).alloc (.cells #[.func (.func A) #[] #[]] 33)) = V0 at *
  clear hb0 hw0 hok hE
  go_upto_region 2 with fail
  have hb2 := below_alloc V0 (.cells #[.int .i64 0] 3)
  have hI1 : FitI V0 V0.heap.size (w.heap.size + 1) A [] (V0.alloc (.cells #[.int .i64 0] 3)) := ⟨hb2, Whole.made V0 3 #[.int .i64 0], hw1.grow hb2⟩
  obtain ⟨c0, c1, c2, c3⟩ := four_cells (hw2.grow hb2)
  have hne : V0.heap.size ≠ w.heap.size + 1 := by have := hw1.lt; omega
  have HC := hq (walk_any Lim (fit_asks V0 V0.heap.size (w.heap.size + 1) A (Nat.le_refl _)) (fun pre y => decide (pre.length + 1 ≤ 4096) && (decide (y.2 ≤ 32) && (nodeM y.1 && askM y.1))) enter_fits1 (caps := #[.pointer (some ⟨V0.heap.size, 0, none⟩), .pointer (some ⟨w.heap.size + 1, 0, none⟩)]) (fun y d pre W hy hlm hI hd hl => fits1_any V0 HE.o _ _ A (Nat.le_refl _) hne askM hca hask y d pre W hy hlm hI hd hl) x 1 [] _ HOK.o hlim hI1 (by omega) (by simp only [List.length_nil]; omega))
  rw [HGV.o] at HC
  have HB1 := hq hb1
  clear hI1 hb1 hb2 hw1 hw2 HOK HE hlim hne HGV hask hca
  generalize hR : (decide (x.m.size ≤ 4096) && (decide (x.m.depth ≤ 32) && x.m.allB (fun v => nodeM v && askM v))) = R at *
  clear hR
  generalize hg : V0.heap.size = g at *
  have hgs : g ≤ V0.heap.size := by omega
  clear hg
  generalize (V0.alloc (.cells #[.int .i64 0] 3)) = V1 at *
  go_wp2_with fail
  refine HC.o.mono ?_
  rintro e w2 ⟨rfl, hI2, hk2⟩
  have HV := hq (HP.o R w2 rfl (HB1.o.trans (hI2.bl.mono HB1.o.size)))
  clear hk2 hI2 HC HP HB1
  go_wp2_with fail
  exact HV.o
set_option maxHeartbeats 4000000 in
set_option maxRecDepth 1000000 in
theorem open1_any (x : Vt) (W : World) : Calls Tryz.prog 69 #[x.v] W (BPost true W) := by
  have hb0 := below_alloc W (.cells #[.int .i64 x.k, .string (st x.t), x.ks.v, x.row] 25)
  have HV := hq (show BPost true W (.returned (.bool true)) (W.alloc (.cells #[.int .i64 x.k, .string (st x.t), x.ks.v, x.row] 25)) from ⟨rfl, hb0⟩)
  generalize BPost true W = PP at *
  clear hb0
  unfold Vt.v
  go_enter Tryz.func69, Tryz.ntmps69
  go_wp2_with fail
  exact HV.o
set_option maxHeartbeats 4000000 in
set_option maxRecDepth 1000000 in
theorem right1_any (x : Vt) (W : World) : Calls Tryz.prog 67 #[x.v] W (BPost (decide (x.m.k ≠ 7)) W) := by
  have hxk : x.m.k = x.k := by cases x; rw [Vt.m_mk]; rfl
  have hb0 := below_alloc W (.cells #[.int .i64 x.k, .string (st x.t), x.ks.v, x.row] 25)
  have hw0 := Whole.made W 25 #[.int .i64 x.k, .string (st x.t), x.ks.v, x.row]
  have HV := hq (show BPost (decide (x.m.k ≠ 7)) W (.returned (.bool (x.k != 7))) (W.alloc (.cells #[.int .i64 x.k, .string (st x.t), x.ks.v, x.row] 25)) from ⟨by
    rw [hxk]
    by_cases h : x.k = 7 <;> simp [h], hb0⟩)
  generalize BPost (decide (x.m.k ≠ 7)) W = PP at *
  clear hb0 hxk
  obtain ⟨c0, c1, c2, c3⟩ := four_cells hw0
  unfold Vt.v
  go_enter Tryz.func67, Tryz.ntmps67
  go_upto_region 1 with fail
  generalize (W.alloc (.cells #[.int .i64 x.k, .string (st x.t), x.ks.v, x.row] 25)) = V0 at *
  by_cases h : x.k = 7
  · have e : (x.k != 7) = false := by rw [bne, beq_iff_eq.2 h]; rfl
    rw [e] at HV
    clear h
    go_wp2_with fail
    exact HV.o
  · have e : (x.k != 7) = true := bne_iff_ne.2 h
    rw [e] at HV
    clear h
    go_wp2_with fail
    exact HV.o
set_option maxHeartbeats 4000000 in
set_option maxRecDepth 1000000 in
theorem open_any (x : Vt) (w : World) (hE : Env w) (hok : x.Ok w) (hlim : x.m.All Lim) (hs : x.m.size ≤ 1000000000) : Calls Tryz.prog 23 #[x.v] w (BPost (openM x.m) w) := by
  have hb0 := below_alloc w (.cells #[.int .i64 x.k, .string (st x.t), x.ks.v, x.row] 25)
  have hw0 := Whole.made w 25 #[.int .i64 x.k, .string (st x.t), x.ks.v, x.row]
  have HC := hq (fits_any _ (fun _ => true) enter_open1 (fun y W => open1_any y W) x _ (hE.grow hb0) (hok.grow hb0) hlim hs)
  have e : (decide (x.m.size ≤ 4096) && (decide (x.m.depth ≤ 32) && x.m.allB (fun v => nodeM v && true))) = openM x.m := by
    unfold openM
    simp only [Bool.and_true]
  rw [e] at HC
  have HP : Hq (∀ W', Below w.heap.size w W' → BPost (openM x.m) w (.returned (.bool (openM x.m))) W') := hq (fun W' h => ⟨rfl, h⟩)
  generalize BPost (openM x.m) w = PP at *
  generalize openM x.m = R at *
  have HB0 := hq hb0
  clear hE hok hb0 hlim e
  obtain ⟨c0, c1, c2, c3⟩ := four_cells hw0
  unfold Vt.v at *
  go_enter Tryz.func23, Tryz.ntmps23
  go_upto_region 1 with fail
  generalize (w.alloc (.cells #[.int .i64 x.k, .string (st x.t), x.ks.v, x.row] 25)) = V0 at *
  go_wp2_with fail
  refine HC.o.mono ?_
  rintro e w2 ⟨rfl, hb2⟩
  have HV := hq (HP.o w2 (below_trans HB0.o hb2))
  clear hb2 HC HP HB0
  go_wp2_with fail
  exact HV.o
set_option maxHeartbeats 4000000 in
set_option maxRecDepth 1000000 in
theorem vright_any (x : Vt) (w : World) (hE : Env w) (hok : x.Ok w) (hlim : x.m.All Lim) (hs : x.m.size ≤ 1000000000) : Calls Tryz.prog 21 #[x.v] w (BPost (rightM x.m) w) := by
  have hb0 := below_alloc w (.cells #[.int .i64 x.k, .string (st x.t), x.ks.v, x.row] 25)
  have hw0 := Whole.made w 25 #[.int .i64 x.k, .string (st x.t), x.ks.v, x.row]
  have HC := hq (fits_any _ (fun v => decide (v.k ≠ 7)) enter_right1 (fun y W => right1_any y W) x _ (hE.grow hb0) (hok.grow hb0) hlim hs)
  have e : (decide (x.m.size ≤ 4096) && (decide (x.m.depth ≤ 32) && x.m.allB (fun v => nodeM v && decide (v.k ≠ 7)))) = rightM x.m := rfl
  rw [e] at HC
  have HP : Hq (∀ W', Below w.heap.size w W' → BPost (rightM x.m) w (.returned (.bool (rightM x.m))) W') := hq (fun W' h => ⟨rfl, h⟩)
  generalize BPost (rightM x.m) w = PP at *
  generalize rightM x.m = R at *
  have HB0 := hq hb0
  clear hE hok hb0 hlim e
  obtain ⟨c0, c1, c2, c3⟩ := four_cells hw0
  unfold Vt.v at *
  go_enter Tryz.func21, Tryz.ntmps21
  go_upto_region 1 with fail
  generalize (w.alloc (.cells #[.int .i64 x.k, .string (st x.t), x.ks.v, x.row] 25)) = V0 at *
  go_wp2_with fail
  refine HC.o.mono ?_
  rintro e w2 ⟨rfl, hb2⟩
  have HV := hq (HP.o w2 (below_trans HB0.o hb2))
  clear hb2 HC HP HB0
  go_wp2_with fail
  exact HV.o
end Go.Proofs.YtfibmmmbpfnccaaGreatDoor
