/-
  WALK: the law PrintCanons, over its small case.
-/
import Derived.Test.YtnlkokgekjlmmaaGreatDoorPrK
import Derived.Test.YtnlkokgekjlmmaaGreatDoorVuL
namespace Go.Proofs.YtnlkokgekjlmmaaGreatDoor
open Go.RowKit

theorem few_pri {x : Vt} {w : World} {n : Nat} (hok : x.Ok w) (h : FewV x.m n) (hn : n ≤ 1000000) : Pri x w := ⟨few_fine hok h hn, h.sh⟩
set_option maxHeartbeats 16000000 in
set_option maxRecDepth 1000000 in
theorem pcanons_law (x : Vt) (w : World) (hE : Env w) (hok : x.Ok w) (hsm : Calls Tryz.prog 13 #[] (w.alloc (.cells #[.int .i64 x.k, .string (st x.t), x.ks.v, x.row] 25)) (BPost true (w.alloc (.cells #[.int .i64 x.k, .string (st x.t), x.ks.v, x.row] 25)))) :
    Calls Tryz.prog 7 #[x.v] w (BPost true w) := by
  have HSM := hq hsm
  have HFE := hq (fun V (hV : Below w.heap.size w V) => few1_any x 300 V (hok.grow hV) (by omega))
  have HCA := hq (fun (hf : FewV x.m 300) V (hV : Below w.heap.size w V) => pcanon x V (hE.grow hV) (few_pri (hok.grow hV) hf (by omega)))
  have HCO := hq (fun (hf : FewV x.m 300) V (hV : Below w.heap.size w V) => pcompact x V (hE.grow hV) (few_pri (hok.grow hV) hf (by omega)))
  have HSO := hq (fun (hf : FewV x.m 300) V (hV : Below w.heap.size w V) => vSorted_any x V (hE.grow hV) (few_fine (hok.grow hV) hf (by omega)))
  have HYA : Hq (∀ (hf : FewV x.m 300) (y : Vt) V V', Below w.heap.size w V → Below V.heap.size V V' → y.Own 25 9 V.heap.size (fun _ => True) V' → y.m = sortM x.m → Calls Tryz.prog 17 #[y.v] V' (TextP (compactM (sortM x.m)) V')) := hq (fun hf y V V' h1 h2 ho hm => by
    have := pcanon y V' (hE.grow (below_trans h1 h2)) (sortM_pri (few_pri (hok.grow h1) hf (by omega)) ho hm)
    rwa [hm, sortM_idem] at this)
  have HYC : Hq (∀ (hf : FewV x.m 300) (y : Vt) V V', Below w.heap.size w V → Below V.heap.size V V' → y.Own 25 9 V.heap.size (fun _ => True) V' → y.m = sortM x.m → Calls Tryz.prog 16 #[y.v] V' (TextP (compactM (sortM x.m)) V')) := hq (fun hf y V V' h1 h2 ho hm => by
    have := pcompact y V' (hE.grow (below_trans h1 h2)) (sortM_pri (few_pri (hok.grow h1) hf (by omega)) ho hm)
    rwa [hm] at this)
  have HLN := hq (canon_len x.m)
  have HP : Hq (∀ W', Below w.heap.size w W' → BPost true w (.returned (.bool true)) W') := hq (fun W' h => ⟨rfl, h⟩)
  have e0 : ∀ v : Vl, (if openM v = true then sortV v else zeroL) = sortM v := fun _ => rfl
  rw [e0] at HSO
  generalize BPost true w = PP at *
  generalize compactM (sortM x.m) = CS at *
  generalize compactM x.m = CX at *
  generalize sortM x.m = SM at *
  clear hE hok hsm e0
  obtain ⟨cs, ce⟩ := CS
  obtain ⟨cx, ee⟩ := CX
  obtain ⟨HL1, HL2⟩ := HLN.o
  simp only at HL1 HL2
  subst HL2
  obtain ⟨k, t, ⟨ko, kc, kl⟩, o, c, is⟩ := x
  rw [Vt.v_mk'] at *
  generalize (Vt.mk k t ⟨ko, kc, kl⟩ o c is).m = X at *
  have hb0 := hq (below_alloc w (.cells #[.int .i64 k, .string (st t), .slice ko kl.length kc, .slice o is.length c] 25))
  have HW0 := hq (Whole.made w 25 #[.int .i64 k, .string (st t), .slice ko kl.length kc, .slice o is.length c])
  replace HSM : Hq (Calls Tryz.prog 13 #[] (w.alloc (.cells #[.int .i64 k, .string (st t), .slice ko kl.length kc, .slice o is.length c] 25)) (BPost true (w.alloc (.cells #[.int .i64 k, .string (st t), .slice ko kl.length kc, .slice o is.length c] 25)))) := HSM
  have h16 : cs.length = cx.length := HL1
  have HH := hq h16
  clear HL1 h16 HLN
  go_enter Tryz.func7, Tryz.ntmps7
  go_upto_region 1 with fail
  generalize w.heap.size = g at HW0
  generalize (w.alloc (.cells #[.int .i64 k, .string (st t), .slice ko kl.length kc, .slice o is.length c] 25)) = V0 at *
  go_wp2_with fail
  refine HSM.o.mono ?_
  rintro e w1 ⟨rfl, hb1⟩
  have HB1 := hq (below_trans hb0.o hb1)
  have HW1 := hq (HW0.o.grow hb1)
  clear HSM hb1 HW0 hb0
  obtain ⟨c0, c1, c2, c3⟩ := four_cells HW1.o
  go_wp2_with fail
  refine (HFE.o w1 HB1.o).mono ?_
  rintro e w2 ⟨vf, rfl, hvf, hb2⟩
  have HVF := hq hvf
  have HB2 := hq (below_trans HB1.o hb2)
  have HW2 := hq (HW1.o.grow hb2)
  clear HFE hvf hb2 HB1 HW1 c0 c1 c2 c3
  obtain ⟨c0, c1, c2, c3⟩ := four_cells HW2.o
  cases vf with
  | false =>
    have HV := hq (HP.o w2 HB2.o)
    clear HCA HCO HSO HYA HYC HP
    go_wp2_with fail
    first
      | exact HV.o
      | (go_ret
         exact HV.o)
  | true =>
    have HF := hq (HVF.o rfl)
    have HC1 := hq (HCA.o HF.o w2 HB2.o)
    clear HVF HCA
    go_wp2_with fail
    refine HC1.o.mono ?_
    rintro e w3 ⟨rfl, hb3⟩
    have HB3 := hq (below_trans HB2.o hb3)
    have HW3 := hq (HW2.o.grow hb3)
    clear HC1 hb3 HB2 HW2 c0 c1 c2 c3
    obtain ⟨c0, c1, c2, c3⟩ := four_cells HW3.o
    have HS1 := hq (HSO.o HF.o w3 HB3.o)
    go_wp2_with fail
    refine HS1.o.mono ?_
    rintro e w4 ⟨y, rfl, ho4, hm4, hb4⟩
    have HC2 := hq (HYA.o HF.o y w3 w4 HB3.o hb4 ho4 hm4)
    have HB4 := hq (below_trans HB3.o hb4)
    have HW4 := hq (HW3.o.grow hb4)
    clear HS1 HYA hb4 ho4 hm4 HB3 HW3 c0 c1 c2 c3
    generalize y.v = yv at *
    clear y
    go_wp2_with fail
    refine HC2.o.mono ?_
    rintro e w5 ⟨rfl, hb5⟩
    have HB5 := hq (below_trans HB4.o hb5)
    have HW5 := hq (HW4.o.grow hb5)
    clear HC2 hb5 HB4 HW4
    obtain ⟨c0, c1, c2, c3⟩ := four_cells HW5.o
    have HS2 := hq (HSO.o HF.o w5 HB5.o)
    clear HSO
    go_wp2_with fail
    refine HS2.o.mono ?_
    rintro e w6 ⟨z, rfl, ho6, hm6, hb6⟩
    have HC3 := hq (HYC.o HF.o z w5 w6 HB5.o hb6 ho6 hm6)
    have HB6 := hq (below_trans HB5.o hb6)
    have HW6 := hq (HW5.o.grow hb6)
    clear HS2 HYC hb6 ho6 hm6 HB5 HW5 c0 c1 c2 c3
    generalize z.v = zv at *
    clear z
    go_wp2_with fail
    refine HC3.o.mono ?_
    rintro e w7 ⟨rfl, hb7⟩
    have HB7 := hq (below_trans HB6.o hb7)
    have HW7 := hq (HW6.o.grow hb7)
    clear HC3 hb7 HB6 HW6
    obtain ⟨c0, c1, c2, c3⟩ := four_cells HW7.o
    have HC4 := hq (HCO.o HF.o w7 HB7.o)
    clear HCO
    go_wp2_with fail
    refine HC4.o.mono ?_
    rintro e w8 ⟨rfl, hb8⟩
    have HV := hq (HP.o w8 (below_trans HB7.o hb8))
    clear HC4 hb8 HB7 HW7 c0 c1 c2 c3 HP HF
    simp only at *
    have h1 : (st cs).size = cs.length := st_size cs
    have h2 : (st cx).size = cx.length := st_size cx
    have h3 : cs.length = cx.length := HH.o
    go_wp2_with fail
    first
      | exact HV.o
      | (go_ret
         exact HV.o)
      | trace_state

end Go.Proofs.YtnlkokgekjlmmaaGreatDoor
