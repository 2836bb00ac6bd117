/-
  WALKS: value.fits, Open, Right.
-/
import Derived.Test.YtfibmmmbpfnccaaGreatDoorVtN
namespace Go.Proofs.YtfibmmmbpfnccaaGreatDoor
open Go.RowKit

/-- texts of some length -/
def Lim (v : Vl) : Prop := v.t.length ≤ 1048576 ∧ ∀ k ∈ v.ks, k.length ≤ 1048576
/-- what fits keeps -/
structure FitI (w0 : World) (g h A : Nat) (pre : List (Vl × Nat)) (W : World) : Prop where
  bl : Below w0.heap.size w0 W
  cn : Whole W g 3 #[.int .i64 (pre.length : Int)]
  fn : Whole W h 33 #[.func (.func A) #[] #[]]
theorem fit_asks (w0 : World) (g h A : Nat) (hg : w0.heap.size ≤ g) : Asks w0 (fun k => k = g) (g + 1) (FitI w0 g h A) where
  c0 k hk := by subst hk; omega
  below pre W hI := ⟨hI.bl, hI.cn.lt⟩
  grow pre W W' hI hb := ⟨hI.bl.trans (hb.mono hI.bl.size), hI.cn.grow hb, hI.fn.grow hb⟩

theorem FitI.step {w0 W V0 : World} {g h A : Nat} {pre : List (Vl × Nat)} (hI : FitI w0 g h A pre W) (hg0 : w0.heap.size ≤ g) (hgh : g ≠ h) (hb : Below W.heap.size W V0) (y : Vl × Nat) {m : Int} (hm : m = (pre.length : Int) + 1) :
    FitI w0 g h A (pre ++ [y]) (V0.setCell ⟨g, 0, none⟩ (.int .i64 m)) ∧ Kp (fun k => k = g) W (V0.setCell ⟨g, 0, none⟩ (.int .i64 m)) := by
  have h1 := CntI.step (w0 := w0) ⟨hI.bl, hI.cn⟩ hg0 hb y hm
  exact ⟨⟨h1.1.1, h1.1.2, (hI.fn.grow hb).far (p := ⟨g, 0, none⟩) (fun e => hgh e.symm) _⟩, h1.2⟩
set_option maxHeartbeats 8000000 in
set_option maxRecDepth 1000000 in
theorem fits1_any (w0 : World) (hE0 : Env w0) (g h A : Nat) (hg0 : w0.heap.size ≤ g) (hgh : g ≠ h) (askM : Vl → Bool) (hca : ∀ (args : Array Value) (w : World), (callFunc A args).run Tryz.prog w = .ok (.enter A args) w)
    (hask : ∀ (x : Vt) (W : World), Calls Tryz.prog A #[x.v] W (BPost (askM x.m) W))
    (x : Vt) (d : Nat) (pre : List (Vl × Nat)) (W : World) (hok : x.Ok w0) (hlim : x.m.All Lim) (hI : FitI w0 g h A pre W) (hd : d ≤ 4611686018427387904) (hl : pre.length < 4611686018427387904) :
    Calls Tryz.prog 98 #[x.v, .int .i64 (d : Int), .pointer (some ⟨g, 0, none⟩), .pointer (some ⟨h, 0, none⟩)] W (AskPost (fun k => k = g) (FitI w0 g h A) (decide (pre.length + 1 ≤ 4096) && (decide (d ≤ 32) && (nodeM x.m && askM x.m))) (pre ++ [(x.m, d)]) W) := by
  have HP : Hq (∀ (b : Bool) W', b = (decide ((pre.length : Int) + 1 ≤ 4096) && (decide ((d : Int) ≤ 32) && (nodeM x.m && askM x.m))) → FitI w0 g h A (pre ++ [(x.m, d)]) W' → Kp (fun k => k = g) W W' → AskPost (fun k => k = g) (FitI w0 g h A) (decide (pre.length + 1 ≤ 4096) && (decide (d ≤ 32) && (nodeM x.m && askM x.m))) (pre ++ [(x.m, d)]) W (.returned (.bool b)) W') := hq (fun b W' h h1 h2 => by
    have e : decide ((pre.length : Int) + 1 ≤ 4096) = decide (pre.length + 1 ≤ 4096) := decide_eq_decide.2 (by omega)
    have e2 : decide ((d : Int) ≤ 32) = decide (d ≤ 32) := decide_eq_decide.2 (by omega)
    rw [h, e, e2]; exact ⟨rfl, h1, h2⟩)
  generalize AskPost (fun k => k = g) (FitI w0 g h A) (decide (pre.length + 1 ≤ 4096) && (decide (d ≤ 32) && (nodeM x.m && askM x.m))) (pre ++ [(x.m, d)]) W = PP at *
  have hlm := hlim.here
  have HND := hq (fun V (hb : Below w0.heap.size w0 V) => node_any x V (hE0.grow hb) (hok.grow hb) (by cases x; exact hlm.1) (by cases x; exact hlm.2))
  have HAS := hq (fun V => hask x V)
  have HSTEP := hq (fun V0 (hb : Below W.heap.size W V0) => hI.step hg0 hgh hb (x.m, d) (m := (pre.length : Int) + 1) rfl)
  have hb0 := below_alloc W (.cells #[.int .i64 x.k, .string (st x.t), x.ks.v, x.row] 25)
  have HBX := hq (Whole.made W 25 #[.int .i64 x.k, .string (st x.t), x.ks.v, x.row])
  have HGL := hq hI.cn.lt
  have HB0 := hq hb0
  have c0 := one_cell (hI.cn.grow hb0)
  have hf := (hI.cn.grow hb0).free 0
  clear hI hb0 hlim hok hE0 hask hlm
  unfold Vt.v at *
  go_enter Tryz.func98, Tryz.ntmps98
  go_upto_region 1 with fail
  generalize (W.alloc (.cells #[.int .i64 x.k, .string (st x.t), x.ks.v, x.row] 25)) = V0 at *
  go_upto_region 2 with fail
  obtain ⟨hI1, hk1⟩ := HSTEP.o V0 HB0.o
  have HBX1 := hq (HBX.o.far (p := ⟨g, 0, none⟩) (show W.heap.size ≠ g by have := HGL.o; omega) (.int .i64 ((pre.length : Int) + 1)))
  have d0 := one_cell hI1.cn
  rw [show (((pre ++ [(x.m, d)]).length : Nat) : Int) = (pre.length : Int) + 1 by rw [List.length_append, List.length_singleton]; omega] at d0
  have d1 := one_cell hI1.fn
  have HI1 := hq hI1
  have HK1 := hq hk1
  clear hI1 hk1 c0 hf HSTEP HBX HB0 HGL
  generalize V0.setCell ⟨g, 0, none⟩ (.int .i64 ((pre.length : Int) + 1)) = V1 at *
  obtain ⟨b0, b1, b2, b3⟩ := four_cells HBX1.o
  by_cases h1 : (pre.length : Int) + 1 ≤ 4096
  case neg =>
    have hz : decide ((pre.length : Int) + 1 ≤ 4096) = false := decide_eq_false h1
    have HV := hq (HP.o false V1 (by rw [hz]; rfl) HI1.o HK1.o)
    clear HP HND HAS
    go_wp2_with fail
    exact HV.o
  have hz : decide ((pre.length : Int) + 1 ≤ 4096) = true := decide_eq_true h1
  by_cases h2 : (d : Int) ≤ 32
  case neg =>
    have hz2 : decide ((d : Int) ≤ 32) = false := decide_eq_false h2
    have HV := hq (HP.o false V1 (by rw [hz, hz2]; rfl) HI1.o HK1.o)
    clear HP HND HAS
    go_wp2_with fail
    exact HV.o
  have hz2 : decide ((d : Int) ≤ 32) = true := decide_eq_true h2
  have HP1 := hq (fun b W' (h : b = (nodeM x.m && askM x.m)) h3 h4 => HP.o b W' (by rw [hz, hz2, h]; rfl) h3 h4)
  have HNC := hq (HND.o V1 HI1.o.bl)
  clear HP HND
  generalize nodeM x.m = nm at *
  generalize askM x.m = am at *
  go_wp2_with fail
  refine HNC.o.mono ?_
  rintro e w2 ⟨rfl, hb2⟩
  have HI2 := hq ((fit_asks w0 g h A hg0).grow _ _ _ HI1.o hb2)
  have HK2 := hq (HK1.o.trans (Kp.of hb2))
  obtain ⟨p0, p1, p2, p3⟩ := four_cells (HBX1.o.grow hb2)
  have q1 := one_cell (HI1.o.fn.grow hb2)
  clear hb2 HNC b0 b1 b2 b3 d0 d1
  cases nm with
  | false =>
    have HV := hq (HP1.o false w2 rfl HI2.o HK2.o)
    clear HP1 HAS
    go_wp2_with fail
    exact HV.o
  | true =>
    go_wp2_with fail
    refine (HAS.o w2).mono ?_
    rintro e w3 ⟨rfl, hb3⟩
    have HV := hq (HP1.o am w3 rfl ((fit_asks w0 g h A hg0).grow _ _ _ HI2.o hb3) (HK2.o.trans (Kp.of hb3)))
    clear HP1 HAS hb3
    go_wp2_with fail
    exact HV.o
theorem enter_fits1 (args : Array Value) (w : World) : (callFunc 98 args).run Tryz.prog w = .ok (.enter 98 args) w := by kernel_rfl
theorem enter_right1 (args : Array Value) (w : World) : (callFunc 67 args).run Tryz.prog w = .ok (.enter 67 args) w := by kernel_rfl
theorem enter_open1 (args : Array Value) (w : World) : (callFunc 69 args).run Tryz.prog w = .ok (.enter 69 args) w := by kernel_rfl
end Go.Proofs.YtfibmmmbpfnccaaGreatDoor
