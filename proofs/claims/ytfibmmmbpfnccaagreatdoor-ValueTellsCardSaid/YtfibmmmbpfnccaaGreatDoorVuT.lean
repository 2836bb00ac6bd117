/-
  WALK: the law ValueTells.
-/
import Derived.Test.YtfibmmmbpfnccaaGreatDoorVuS
import Derived.Test.YtfibmmmbpfnccaaGreatDoorVrC
namespace Go.Proofs.YtfibmmmbpfnccaaGreatDoor
open Go.RowKit

theorem leaf_okV (k : Int) (t : Bs) (W : World) (hk : -9223372036854775808 ≤ k ∧ k ≤ 9223372036854775807) (ht : t.length ≤ maxLen) : (leafT k t).Ok W :=
  .mk _ _ _ _ _ _ hk ht ⟨Nat.le_refl _, Nat.zero_le _, StrsIn.nil _ _⟩ (fun x hx => by cases hx) (Nat.le_refl _) (Nat.zero_le _) (fun i hi => absurd hi (Nat.not_lt_zero i)) (fun i hi => absurd hi (Nat.not_lt_zero i))
theorem equal_self {A : Value} {m : Vl} {V : World} (h : IsM m A V) : Calls Tryz.prog 19 #[A, A] V (BPost true V) := equalM_any h h ⟨fun _ => rfl, fun _ => rfl⟩
/-- what lies in memory ahead of the law's last line -/
structure Pt (w : World) (g gw : Nat) (CA CW : Array Value) (ws : Vt) (W : World) : Prop where
  lo : Below w.heap.size w W
  a : Whole W g 25 CA
  b : Whole W gw 25 CW
  fw : ws.Ok W
theorem Pt.grow {w W W' : World} {g gw : Nat} {CA CW : Array Value} {ws : Vt} (h : Pt w g gw CA CW ws W) (hb : Below W.heap.size W W') : Pt w g gw CA CW ws W' :=
  ⟨below_trans h.lo hb, h.a.grow hb, h.b.grow hb, h.fw.grow hb⟩
theorem Pt.drew {w W : World} {g gw : Nat} {CA CW : Array Value} {ws : Vt} (h : Pt w g gw CA CW ws W) : Pt w g gw CA CW ws W.drew := h.grow (Below.refl _ _).drew
set_option maxHeartbeats 16000000 in
set_option maxRecDepth 1000000 in
theorem tells_any (x : Vt) (key : Bs) (n : Int) (w : World) (hE : Env w) (hsm : SmallAt w) (hx : x.Ok w) (hkey : key.length ≤ maxLen) (hn : -9223372036854775808 ≤ n ∧ n ≤ 9223372036854775807) :
    Calls Tryz.prog 3 #[x.v, .string (st key), .int .i64 n] w (BPost true w) := by
  have HSM := hq hsm
  have HE := hq hE
  have HRX := hq hx.rng
  have HFX := hq (fun V (hV : Below w.heap.size w V) => few1_any x 500 V (hx.grow hV) (by decide))
  have HNX := hq (fun (h : FewV x.m 500) V (hV : Below w.heap.size w V) => few_fine (hx.grow hV) h (by decide))
  have HZX := hq (fun (h : FewV x.m 500) => h.wt)
  clear hE hsm hx
  unfold maxLen at hkey
  have hks : (st key).size = key.length := st_size key
  have HN3 : Hq ((textM (ofM n)).length ≤ 3000) := hq (by
    have h1 := ofM_bdU n hn.1 hn.2
    have h2 := textM_lenV (ofM n) h1.2
    omega)
  have HP : Hq (∀ W', Below w.heap.size w W' → BPost true w (.returned (.bool true)) W') := hq (fun W' h => ⟨rfl, h⟩)
  generalize hPP : BPost true w = PP at *
  clear hPP
  obtain ⟨k, t, ⟨ko, kc, kl⟩, o, c, is⟩ := x
  have HVX : Hq ((Vt.mk k t ⟨ko, kc, kl⟩ o c is).v = .agg #[.int .i64 k, .string (st t), .slice ko kl.length kc, .slice o is.length c]) := hq rfl
  generalize (Vt.mk k t ⟨ko, kc, kl⟩ o c is) = X at *
  rw [HVX.o]
  rw [HVX.o] at HFX
  have HB0 := hq (below_alloc w (.cells #[.int .i64 k, .string (st t), .slice ko kl.length kc, .slice o is.length c] 25))
  have HW0 := hq (Whole.made w 25 #[.int .i64 k, .string (st t), .slice ko kl.length kc, .slice o is.length c])
  go_enter Tryz.func3, Tryz.ntmps3
  go_upto_region 1 with fail
  generalize w.heap.size = g at HW0
  generalize (w.alloc (.cells #[.int .i64 k, .string (st t), .slice ko kl.length kc, .slice o is.length c] 25)) = V0 at *
  have hVC := hq (fun wr (hb : Below V0.heap.size V0 wr) => HW0.o.grow hb)
  clear HW0
  have HSC := hq (HSM.o V0 HB0.o)
  clear HSM
  go_wp2_with fail
  refine HSC.o.mono ?_
  rintro e w1 ⟨rfl, hb1⟩
  have HV1 := hq hb1
  have HB1 := hq (below_trans HB0.o hb1)
  obtain ⟨a0, a1, a2, a3⟩ := four_cells (hVC.o w1 hb1)
  clear hb1 HSC
  go_wp2_with fail
  refine (HFX.o w1 HB1.o).mono ?_
  rintro e w2 ⟨fx, rfl, hfx, hb2⟩
  have HV2 := hq (below_trans HV1.o hb2)
  have HB2 := hq (below_trans HB1.o hb2)
  have HHX := hq hfx
  clear hb2 hfx HFX a0 a1 a2 a3 HV1 HB1
  obtain ⟨a0, a1, a2, a3⟩ := four_cells (hVC.o w2 HV2.o)
  cases fx with
  | false =>
    have HV := hq (HP.o w2 HB2.o)
    clear HNX HZX HP HHX
    go_wp2_with fail
    exact HV.o
  | true =>
  have HFX' := hq (HHX.o rfl)
  clear HHX
  by_cases hlen : (1024 : Int) < (key.length : Int)
  · have HV := hq (HP.o w2 HB2.o)
    clear HNX HZX HP HFX'
    go_wp2_with fail
    exact HV.o
  have HZ := hq (HZX.o HFX'.o)
  have HNX' := hq (HNX.o HFX'.o)
  clear HFX' HZX HNX
  have HCL : Hq (∀ V, Below w.heap.size w V → Calls Tryz.prog 16 #[.agg #[.int .i64 k, .string (st t), .slice ko kl.length kc, .slice o is.length c]] V (RemPost X.m V)) := hq (fun V hV => by
    have := clone_any X V (HNX'.o V hV).ok (Nat.le_trans HZ.o (by decide))
    rwa [HVX.o] at this)
  go_wp2_with fail
  refine (HCL.o w2 HB2.o).mono ?_
  rintro e w5 ⟨ws, rfl, hwo, hwm, hb5⟩
  have HWO : Hq (∀ V, Below w5.heap.size w5 V → ws.Ok V) := hq (fun V hV => (hwo.ok (by rw [hwm]; exact HRX.o)).grow hV)
  have HWM := hq hwm
  have HV5 := hq (below_trans HV2.o hb5)
  have HB5 := hq (below_trans HB2.o hb5)
  clear hwo hwm hb5 HV2 HB2 HCL a0 a1 a2 a3
  obtain ⟨wk, wt, ⟨wko, wkc, wkl⟩, wo, wc0, wis⟩ := ws
  have HVWS : Hq ((Vt.mk wk wt ⟨wko, wkc, wkl⟩ wo wc0 wis).v = .agg #[.int .i64 wk, .string (st wt), .slice wko wkl.length wkc, .slice wo wis.length wc0]) := hq rfl
  generalize (Vt.mk wk wt ⟨wko, wkc, wkl⟩ wo wc0 wis) = ws at *
  rw [HVWS.o]
  go_upto_region 6 with fail
  have hbA := below_alloc w5 (.cells #[.int .i64 wk, .string (st wt), .slice wko wkl.length wkc, .slice wo wis.length wc0] 25)
  have HT6 : Hq (Pt w g w5.heap.size #[.int .i64 k, .string (st t), .slice ko kl.length kc, .slice o is.length c] #[.int .i64 wk, .string (st wt), .slice wko wkl.length wkc, .slice wo wis.length wc0] ws (w5.alloc (.cells #[.int .i64 wk, .string (st wt), .slice wko wkl.length wkc, .slice wo wis.length wc0] 25))) :=
    hq ⟨below_trans HB5.o hbA, hVC.o _ (below_trans HV5.o hbA), Whole.made _ _ _, HWO.o _ hbA⟩
  clear hbA HWO HV5 HB5 hVC HB0
  generalize (w5.alloc _) = W6 at *
  generalize w5.heap.size = gw at *
  obtain ⟨a0, a1, a2, a3⟩ := four_cells HT6.o.a
  have HGE : Hq (∀ V, Below w.heap.size w V → Calls Tryz.prog 17 #[.agg #[.int .i64 k, .string (st t), .slice ko kl.length kc, .slice o is.length c], .string (st key)] V (GetPost (getM X.m key) V)) := hq (fun V hV => by
    have := vGet_any X key V (HE.o.grow hV) (HNX'.o V hV)
    rwa [HVX.o] at this)
  have HRGE : Hq (∀ V, Below w.heap.size w V → Calls Tryz.prog 18 #[.agg #[.int .i64 k, .string (st t), .slice ko kl.length kc, .slice o is.length c], .string (st key)] V (GetPost (getM X.m key) V)) := hq (fun V hV => by
    have := rGet_any X key V (HNX'.o V hV) (Nat.le_trans HZ.o (by decide))
    rwa [HVX.o] at this)
  have HGR : Hq (((getM X.m key).getD zeroL).All Vl.Rng) := hq (by
    unfold getM
    have hz : zeroL.All Vl.Rng := .mk _ _ _ _ ⟨by decide, Nat.zero_le _, fun x hx => by cases hx⟩ (fun x hx => by cases hx)
    split
    · split
      · rename_i i _
        cases hi : X.m.is[i]? with
        | none => exact hz
        | some y =>
          have hm := List.mem_of_getElem? hi
          have h1 := HRX.o
          generalize X.m = XM at *
          obtain ⟨a1, a2, a3, a4⟩ := XM
          exact h1.items y hm
      · exact hz
    · exact hz)
  generalize getM X.m key = gm at *
  obtain ⟨gi, hgi⟩ : ∃ b : Bool, b = gm.isSome := ⟨_, rfl⟩
  have HGI := hq hgi.symm
  clear hgi
  go_wp2_with fail
  refine (HGE.o W6 HT6.o.lo).mono ?_
  rintro e w7 ⟨xs, rfl, hxo, hxm, hb7⟩
  have HXO : Hq (∀ V, Below w7.heap.size w7 V → xs.Own 25 9 W6.heap.size (fun _ => True) V) := hq (fun V hV => hxo.grow hV)
  have HXM := hq hxm
  have HB7 := hq hb7
  have HT7 := hq (HT6.o.grow hb7)
  have HS7 := hq hb7.size
  clear hxo hxm hb7 HGE a0 a1 a2 a3
  obtain ⟨xk, xt, ⟨xko, xkc, xkl⟩, xo, xc, xis⟩ := xs
  have HVXS : Hq ((Vt.mk xk xt ⟨xko, xkc, xkl⟩ xo xc xis).v = .agg #[.int .i64 xk, .string (st xt), .slice xko xkl.length xkc, .slice xo xis.length xc]) := hq rfl
  generalize (Vt.mk xk xt ⟨xko, xkc, xkl⟩ xo xc xis) = xs at *
  rw [HVXS.o]
  rw [HGI.o]
  go_upto_region 7 with fail
  have hbA := below_alloc w7 (.cells #[.int .i64 xk, .string (st xt), .slice xko xkl.length xkc, .slice xo xis.length xc] 25)
  have HT8 := hq (HT7.o.grow hbA)
  have HX8 := hq (Whole.made w7 25 #[.int .i64 xk, .string (st xt), .slice xko xkl.length xkc, .slice xo xis.length xc])
  have HXO8 : Hq (∀ V, Below (w7.alloc (.cells #[.int .i64 xk, .string (st xt), .slice xko xkl.length xkc, .slice xo xis.length xc] 25)).heap.size (w7.alloc (.cells #[.int .i64 xk, .string (st xt), .slice xko xkl.length xkc, .slice xo xis.length xc] 25)) V → xs.Own 25 9 W6.heap.size (fun _ => True) V) := hq (fun V hV => HXO.o V (below_trans hbA hV))
  have HB8 := hq (below_trans HB7.o hbA)
  clear hbA HXO HT7 HB7
  generalize (w7.alloc _) = W8 at *
  generalize w7.heap.size = gx at *
  obtain ⟨a0, a1, a2, a3⟩ := four_cells HT8.o.a
  go_wp2_with fail
  refine (HRGE.o W8 HT8.o.lo).mono ?_
  rintro e w9 ⟨ys, rfl, hyo, hym, hb9⟩
  have HYO : Hq (∀ V, Below w9.heap.size w9 V → IsM (gm.getD zeroL) ys.v V) := hq (fun V hV => ⟨ys, rfl, (hyo.ok (by rw [hym]; exact HGR.o)).grow hV, hym⟩)
  have HT9 := hq (HT8.o.grow hb9)
  have HX9 := hq (HX8.o.grow hb9)
  have HXO9 : Hq (∀ V, Below w9.heap.size w9 V → xs.Own 25 9 W6.heap.size (fun _ => True) V) := hq (fun V hV => HXO8.o V (below_trans hb9 hV))
  have HB9 := hq (below_trans HB8.o hb9)
  clear hyo hym hb9 HRGE a0 a1 a2 a3 HT8 HX8 HXO8 HB8
  obtain ⟨yk, yt, ⟨yko, ykc, ykl⟩, yo, yc, yis⟩ := ys
  rw [Vt.v_mk', HGI.o]
  rw [Vt.v_mk'] at HYO
  go_upto_region 8 with fail
  have hbA := below_alloc w9 (.cells #[.int .i64 yk, .string (st yt), .slice yko ykl.length ykc, .slice yo yis.length yc] 25)
  have HTa := hq (HT9.o.grow hbA)
  have HXa := hq (HX9.o.grow hbA)
  have HYa := hq (Whole.made w9 25 #[.int .i64 yk, .string (st yt), .slice yko ykl.length ykc, .slice yo yis.length yc])
  have HXOa := hq (fun V (hV : Below _ (w9.alloc (.cells #[.int .i64 yk, .string (st yt), .slice yko ykl.length ykc, .slice yo yis.length yc] 25)) V) => HXO9.o V (below_trans hbA hV))
  have HYOa := hq (HYO.o _ hbA)
  have HBa := hq (below_trans HB9.o hbA)
  clear hbA HYO HXO9 HT9 HX9 HB9
  generalize (w9.alloc _) = Wa at *
  generalize w9.heap.size = gy at *
  obtain ⟨x0, x1, x2, x3⟩ := four_cells HXa.o
  obtain ⟨y0, y1, y2, y3⟩ := four_cells HYa.o
  have HEA : Hq (Calls Tryz.prog 19 #[.agg #[.int .i64 xk, .string (st xt), .slice xko xkl.length xkc, .slice xo xis.length xc], .agg #[.int .i64 yk, .string (st yt), .slice yko ykl.length ykc, .slice yo yis.length yc]] Wa (BPost true Wa)) :=
    hq (equalM_any (m := gm.getD zeroL) (n := gm.getD zeroL) ⟨xs, HVXS.o.symm, (HXOa.o Wa (Below.refl _ _)).ok (by rw [HXM.o]; exact HGR.o), HXM.o⟩ HYOa.o ⟨fun _ => rfl, fun _ => rfl⟩)
  go_wp2_with fail
  refine HEA.o.mono ?_
  rintro e wb ⟨rfl, hbb⟩
  have HTb := hq (HTa.o.grow hbb)
  have HBb := hq (below_trans HBa.o hbb)
  have HXb := hq (HXa.o.grow hbb)
  have HSP : Hq (Calls Tryz.prog 20 #[.agg #[.int .i64 xk, .string (st xt), .slice xko xkl.length xkc, .slice xo xis.length xc]] wb (SpPost W6.heap.size wb)) := hq (by
    have := spoilO_any (HXOa.o wb hbb) HBb.o.size
    rwa [HVXS.o] at this)
  clear hbb HEA x0 x1 x2 x3 y0 y1 y2 y3 HTa HBa HXa HYa HXOa HYOa HTb
  obtain ⟨x0, x1, x2, x3⟩ := four_cells HXb.o
  go_wp2_with fail
  refine HSP.o.mono ?_
  rintro e wd ⟨rfl, hsd⟩
  have HTd := hq (HT6.o.grow (HBb.o.trans hsd.below))
  clear hsd HSP x0 x1 x2 x3 HBb HXb HT6 HXM HVXS HGR HS7
  go_upto_region 10 with fail
  have hT1 := HTd.o
  clear HTd
  generalize hCA : (#[.int .i64 k, .string (st t), .slice ko kl.length kc, .slice o is.length c] : Array Value) = CA at *
  generalize hCW : (#[.int .i64 wk, .string (st wt), .slice wko wkl.length wkc, .slice wo wis.length wc0] : Array Value) = CW at *
  have HC4 : Hq (∀ W, Pt w g gw CA CW ws W → ((W.cell? ⟨g, 0, none⟩ = some (.int .i64 k) ∧ W.cell? ⟨g, 1, none⟩ = some (.string (st t)) ∧ W.cell? ⟨g, 2, none⟩ = some (.slice ko kl.length kc) ∧ W.cell? ⟨g, 3, none⟩ = some (.slice o is.length c)) ∧ (W.cell? ⟨gw, 0, none⟩ = some (.int .i64 wk) ∧ W.cell? ⟨gw, 1, none⟩ = some (.string (st wt)) ∧ W.cell? ⟨gw, 2, none⟩ = some (.slice wko wkl.length wkc) ∧ W.cell? ⟨gw, 3, none⟩ = some (.slice wo wis.length wc0)))) := hq (fun W h => by
    subst hCA hCW
    exact ⟨four_cells h.a, four_cells h.b⟩)
  obtain ⟨TN, hTN⟩ : ∃ T, T = textM (ofM n) := ⟨_, rfl⟩
  rw [← hTN] at HN3
  have HEQ : Hq (∀ V A B, ((A = Value.agg CA ∧ B = .agg CW) ∨ (A = Value.agg #[.int .i64 4, .string (st key), .slice none 0 0, .slice none 0 0] ∧ B = A) ∨ (A = Value.agg #[.int .i64 3, .string (st TN), .slice none 0 0, .slice none 0 0] ∧ B = A)) → Pt w g gw CA CW ws V → Calls Tryz.prog 19 #[A, B] V (BPost true V)) := hq (fun V A B h hP => by
    rcases h with ⟨rfl, rfl⟩ | ⟨rfl, rfl⟩ | ⟨rfl, rfl⟩
    · exact equalM_any (m := X.m) (n := ws.m) ⟨X, HVX.o.symm, (HNX'.o V hP.lo).ok, rfl⟩ ⟨ws, HVWS.o.symm, hP.fw, rfl⟩ ⟨fun _ => HWM.o.symm, fun _ => rfl⟩
    · exact equal_self (m := .mk 4 key [] []) ⟨leafT 4 key, rfl, leaf_okV 4 key V (by decide) (by unfold maxLen; omega), leafT_m _ _⟩
    · exact equal_self (m := .mk 3 TN [] []) ⟨leafT 3 TN, rfl, leaf_okV 3 TN V (by decide) (by have := HN3.o; unfold maxLen; omega), leafT_m _ _⟩)
  obtain ⟨r, hr⟩ : ∃ r, r = rightM X.m := ⟨_, rfl⟩
  obtain ⟨op, hop⟩ : ∃ r, r = openM X.m := ⟨_, rfl⟩
  obtain ⟨s, hs⟩ : ∃ s : Int, s = (X.m.size : Int) := ⟨_, rfl⟩
  obtain ⟨d, hd⟩ : ∃ d : Int, d = (X.m.depth : Int) := ⟨_, rfl⟩
  have HZ2 : Hq (X.m.size ≤ 500) := hq (Nat.le_trans X.m.size_weight HZ.o)
  have HRI : Hq (∀ V, Pt w g gw CA CW ws V → Calls Tryz.prog 21 #[.agg CA] V (BPost r V)) := hq (fun V hP => by
    have := vright_any X V (HE.o.grow hP.lo) (HNX'.o V hP.lo).ok (HNX'.o V hP.lo).lim (by have := HZ2.o; omega)
    rwa [HVX.o, ← hr] at this)
  have HRR : Hq (∀ V, Pt w g gw CA CW ws V → Calls Tryz.prog 22 #[.agg CA] V (BPost r V)) := hq (fun V hP => by
    have := rrightV_any X V (HNX'.o V hP.lo)
    rwa [HVX.o, ← hr] at this)
  have HOP : Hq (∀ V, Pt w g gw CA CW ws V → Calls Tryz.prog 23 #[.agg CA] V (BPost op V)) := hq (fun V hP => by
    have := open_any X V (HE.o.grow hP.lo) (HNX'.o V hP.lo).ok (HNX'.o V hP.lo).lim (by have := HZ2.o; omega)
    rwa [HVX.o, ← hop] at this)
  have HRO : Hq (∀ V, Pt w g gw CA CW ws V → Calls Tryz.prog 24 #[.agg CA] V (BPost op V)) := hq (fun V hP => by
    have := ropenV_any X V (HNX'.o V hP.lo)
    rwa [HVX.o, ← hop] at this)
  have HSZ : Hq (∀ V, Pt w g gw CA CW ws V → Calls Tryz.prog 25 #[.agg CA] V (IPost s V)) := hq (fun V hP => by
    have := vsize_any X V (HNX'.o V hP.lo).ok (by have := HZ2.o; omega)
    rwa [HVX.o, ← hs] at this)
  have HRS : Hq (∀ V, Pt w g gw CA CW ws V → Calls Tryz.prog 26 #[.agg CA] V (IPost s V)) := hq (fun V hP => by
    have := rvsize_any X V (HNX'.o V hP.lo).ok (by have := HZ2.o; omega)
    rwa [HVX.o, ← hs] at this)
  have HDP : Hq (∀ V, Pt w g gw CA CW ws V → Calls Tryz.prog 27 #[.agg CA] V (IPost d V)) := hq (fun V hP => by
    have := vdepth_any X V (HNX'.o V hP.lo).ok (by have := HZ2.o; omega)
    rwa [HVX.o, ← hd] at this)
  have HRD : Hq (∀ V, Pt w g gw CA CW ws V → Calls Tryz.prog 28 #[.agg CA] V (IPost d V)) := hq (fun V hP => by
    have := rvdepth_any X V (HNX'.o V hP.lo).ok (by have := HZ2.o; have := X.m.depth_size; omega)
    rwa [HVX.o, ← hd] at this)
  have HNU : Hq (∀ V, Pt w g gw CA CW ws V → Calls Tryz.prog 31 #[.int .i64 n] V (LeafPost 3 TN V)) := hq (fun V hP => by
    have := vNum_any n V (HE.o.grow hP.lo).its hn.1 hn.2
    rwa [← hTN] at this)
  have HRN : Hq (∀ V, Pt w g gw CA CW ws V → Calls Tryz.prog 32 #[.int .i64 n] V (LeafPost 3 TN V)) := hq (fun V _ => by
    have := rNum_any n V hn.1 hn.2
    rwa [← hTN] at this)
  clear HNX' HE HRX HZ HZ2 HVX HVWS HWM hs hd hr hop hTN HN3 hn
  have hr1 : (gi == gi) = true := beq_self_eq_true _
  have hr2 : (s == s) = true := beq_self_eq_true _
  have hr3 : (d == d) = true := beq_self_eq_true _
  have hr4 : (r == r) = true := beq_self_eq_true _
  have hr5 : (op == op) = true := beq_self_eq_true _
  subst hCA hCW
  go_region_held3 (fun W => Pt w g gw #[.int .i64 k, .string (st t), .slice ko kl.length kc, .slice o is.length c] #[.int .i64 wk, .string (st wt), .slice wko wkl.length wkc, .slice wo wis.length wc0] ws W ∧ ((W.cell? ⟨g, 0, none⟩ = some (.int .i64 k) ∧ W.cell? ⟨g, 1, none⟩ = some (.string (st t)) ∧ W.cell? ⟨g, 2, none⟩ = some (.slice ko kl.length kc) ∧ W.cell? ⟨g, 3, none⟩ = some (.slice o is.length c)) ∧ (W.cell? ⟨gw, 0, none⟩ = some (.int .i64 wk) ∧ W.cell? ⟨gw, 1, none⟩ = some (.string (st wt)) ∧ W.cell? ⟨gw, 2, none⟩ = some (.slice wko wkl.length wkc) ∧ W.cell? ⟨gw, 3, none⟩ = some (.slice wo wis.length wc0))))
    ((refine (fun h : Pt w g gw #[.int .i64 k, .string (st t), .slice ko kl.length kc, .slice o is.length c] #[.int .i64 wk, .string (st wt), .slice wko wkl.length wkc, .slice wo wis.length wc0] ws _ => ⟨h, HC4.o _ h⟩) ?_; first | exact hT1 | exact hT1.drew | exact hT2 | exact hT2.drew))
    (first
      | (go_at_call 19; (with_reducible refine (HEQ.o _ _ _ (by first | exact .inl ⟨rfl, rfl⟩ | exact .inr (.inl ⟨rfl, rfl⟩) | exact .inr (.inr ⟨rfl, rfl⟩)) (And.left (by assumption))).mono ?_); rintro e v ⟨rfl, hb2⟩; have hT2 := Pt.grow (And.left (by assumption)) hb2)
      | (go_at_call 21; (with_reducible refine (HRI.o _ (And.left (by assumption))).mono ?_); rintro e v ⟨rfl, hb2⟩; have hT2 := Pt.grow (And.left (by assumption)) hb2)
      | (go_at_call 22; (with_reducible refine (HRR.o _ (And.left (by assumption))).mono ?_); rintro e v ⟨rfl, hb2⟩; have hT2 := Pt.grow (And.left (by assumption)) hb2)
      | (go_at_call 23; (with_reducible refine (HOP.o _ (And.left (by assumption))).mono ?_); rintro e v ⟨rfl, hb2⟩; have hT2 := Pt.grow (And.left (by assumption)) hb2)
      | (go_at_call 24; (with_reducible refine (HRO.o _ (And.left (by assumption))).mono ?_); rintro e v ⟨rfl, hb2⟩; have hT2 := Pt.grow (And.left (by assumption)) hb2)
      | (go_at_call 25; (with_reducible refine (HSZ.o _ (And.left (by assumption))).mono ?_); rintro e v ⟨rfl, hb2⟩; have hT2 := Pt.grow (And.left (by assumption)) hb2)
      | (go_at_call 26; (with_reducible refine (HRS.o _ (And.left (by assumption))).mono ?_); rintro e v ⟨rfl, hb2⟩; have hT2 := Pt.grow (And.left (by assumption)) hb2)
      | (go_at_call 27; (with_reducible refine (HDP.o _ (And.left (by assumption))).mono ?_); rintro e v ⟨rfl, hb2⟩; have hT2 := Pt.grow (And.left (by assumption)) hb2)
      | (go_at_call 28; (with_reducible refine (HRD.o _ (And.left (by assumption))).mono ?_); rintro e v ⟨rfl, hb2⟩; have hT2 := Pt.grow (And.left (by assumption)) hb2)
      | (go_at_call 29; (with_reducible refine (vOf_any _ _).mono ?_); rintro e v ⟨rfl, hb2⟩; have hT2 := Pt.grow (And.left (by assumption)) hb2; rw [leafT_v])
      | (go_at_call 30; (with_reducible refine (rOf_any _ _).mono ?_); rintro e v ⟨rfl, hb2⟩; have hT2 := Pt.grow (And.left (by assumption)) hb2; rw [leafT_v])
      | (go_at_call 31; (with_reducible refine (HNU.o _ (And.left (by assumption))).mono ?_); rintro e v ⟨rfl, hb2⟩; have hT2 := Pt.grow (And.left (by assumption)) hb2; rw [leafT_v])
      | (go_at_call 32; (with_reducible refine (HRN.o _ (And.left (by assumption))).mono ?_); rintro e v ⟨rfl, hb2⟩; have hT2 := Pt.grow (And.left (by assumption)) hb2; rw [leafT_v]))
  all_goals
    have HV := hq (HP.o _ hT2.lo)
    clear HP HC4 HEQ HRI HRR HOP HRO HSZ HRS HDP HRD HNU HRN
    go_wp2_with fail
    exact HV.o
theorem tells_law (x : Vt) (s : ByteArray) (n : Int) (w : World) (hE : Env w) (hsm : SmallAt w) (hx : x.Ok w) (hs : s.size ≤ maxLen) (hn : -9223372036854775808 ≤ n ∧ n ≤ 9223372036854775807) :
    Calls Tryz.prog 3 #[x.v, .string s, .int .i64 n] w (BPost true w) := by
  have h := tells_any x s.data.toList n w hE hsm hx (by have : s.data.toList.length = s.size := by rw [Array.length_toList]; rfl
                                                        omega) hn
  rwa [st_of] at h
end Go.Proofs.YtfibmmmbpfnccaaGreatDoor
