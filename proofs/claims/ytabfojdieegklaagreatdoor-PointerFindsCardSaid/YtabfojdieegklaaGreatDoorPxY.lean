/-
  WALK: the law PointerFinds.
-/
import Derived.Test.YtabfojdieegklaaGreatDoorPxW
namespace Go.Proofs.YtabfojdieegklaaGreatDoor
open Go.RowKit

/-- what a call answers: a tree of its own, and a second value -/
def OPost (M : Vl) (s : Value) (V : World) (e : Ending) (W : World) : Prop := ∃ y : Vt, e = .returned (.tuple #[y.v, s]) ∧ (y.Own 37 9 V.heap.size (fun _ => True) W ∧ Fine y W ∧ y.m = M) ∧ Below V.heap.size V W
theorem find_o {x : Vt} {V : World} {e : Ending} {W : World} {r : Option Vl} {p : List Bs} (hx : Fine x V) (hr : pfindM x.m p = r) (h : GetPost r V e W) : OPost (r.getD zeroL) (.bool r.isSome) V e W := by
  obtain ⟨y, h1, h2, h3, h4⟩ := h
  exact ⟨y, h1, ⟨h2, find_fine (p := p) hx h2 (by rw [hr]; exact h3), h3⟩, h4⟩
theorem set_o {x u : Vt} {V : World} {e : Ending} {W : World} {l : List Bs} (hx : Fine x V) (hu : Fine u V) (h : SetPost (psetR x.m l u.m) V e W) : OPost (psetR x.m l u.m).1 (.int .i64 (psetR x.m l u.m).2) V e W := by
  obtain ⟨y, h1, h2, h3, h4⟩ := h
  exact ⟨y, h1, ⟨h2, ⟨h2.ok (by rw [h3]; exact psetR_all (P := Vl.Rng) (fun _ _ _ _ _ h => ⟨h.hk, h.ht, h.hkt⟩) hx.ok.rng hu.ok.rng zeroL_rng l), by rw [h3]; exact psetR_all (P := Lim) (fun _ _ _ _ _ h => ⟨h.1, h.2⟩) hx.lim hu.lim zeroL_lim l, by rw [h3]; have := psetR_size2 (x := x.m) (u := u.m) l; omega⟩, h3⟩, h4⟩
theorem clone_o {x : Vt} {V : World} (hx : Fine x V) (hw : x.m.weight ≤ 1000000) : Calls Tryz.prog 28 #[x.v] V fun e W => ∃ y : Vt, e = .returned y.v ∧ (Fine y W ∧ y.m = x.m) ∧ Below V.heap.size V W :=
  (clone_any x V hx.ok hw).mono fun e W ⟨y, h1, h2, h3, h4⟩ => ⟨y, h1, ⟨⟨h2.ok (by rw [h3]; exact hx.ok.rng), by rw [h3]; exact hx.lim, by rw [h3]; exact hx.sz⟩, h3⟩, h4⟩
theorem BoxS.of {W : World} {g : Nat} {z : Int} {t : Bs} {kv ov : Value} (h : Whole W g 37 #[.int .i64 z, .string (st t), kv, ov]) : BoxS W g t kv ov := ⟨_, h, ⟨z, rfl⟩, rfl, rfl, rfl⟩
theorem BoxS.all {g : Nat} {w : World} {t : Bs} {kv ov : Value} (h : BoxS w g t kv ov) : ∃ z, w.cell? ⟨g, 0, none⟩ = some (.int .i64 z) ∧ w.cell? ⟨g, 1, none⟩ = some (.string (st t)) ∧ w.cell? ⟨g, 2, none⟩ = some kv ∧ w.cell? ⟨g, 3, none⟩ = some ov := by
  obtain ⟨cur, h1, ⟨z, h2⟩, h3, h4, h5⟩ := h.at_
  exact ⟨z, (cell_of_row w g _ cur _ (0, 0) h1).trans h2, (cell_of_row w g _ cur _ (0, 0) h1).trans h3, (cell_of_row w g _ cur _ (0, 0) h1).trans h4, (cell_of_row w g _ cur _ (0, 0) h1).trans h5⟩
set_option maxHeartbeats 16000000 in
set_option maxRecDepth 1000000 in
theorem pfinds_any (x u : Vt) (po : Option Addr) (pc : Nat) (p : List Bs) (w : World) (hE : Env w) (hM : mx w) (hx : x.Ok w) (hu : u.Ok w) (hp : (⟨po, pc, p⟩ : SRow).ok w) (hpt : Room p) :
    Calls Tryz.prog 4 #[x.v, .slice po p.length pc, u.v] w (BPost true w) := by
  have HSM := hq (fun V (hV : Below w.heap.size w V) => (smallP_any V (hE.grow hV) (mx_grow hM hV)).mono (R' := fun e w' => e = .returned (.bool true) ∧ Below V.heap.size V w') (fun e w' h => h))
  have HFX := hq (fun V (hV : Below w.heap.size w V) => few1_any x 300 V (hx.grow hV) (by decide))
  have HFU := hq (fun V (hV : Below w.heap.size w V) => few1_any u 300 V (hu.grow hV) (by decide))
  have HSP := hq (fun V (hV : Below w.heap.size w V) => short_any po pc p V hp.le hp.cp (hp.grow hV).rd hpt)
  have HC1 := hq (fun (hf : FewV x.m 300) V (hV : Below w.heap.size w V) => clone_o (few_fine (hx.grow hV) hf (by decide)) (Nat.le_trans hf.wt (by decide)))
  have HC2 := hq (fun (hf : FewV u.m 300) V (hV : Below w.heap.size w V) => clone_o (few_fine (hu.grow hV) hf (by decide)) (Nat.le_trans hf.wt (by decide)))
  have HF1 := hq (fun (hf : FewV x.m 300) V (hV : Below w.heap.size w V) => (pFind_any x po pc p V (hE.grow hV) (few_fine (hx.grow hV) hf (by decide)) (hp.grow hV) hpt).mono (fun e W h => find_o (p := p) (few_fine (hx.grow hV) hf (by decide)) rfl h))
  have HF2 := hq (fun (hf : FewV x.m 300) V (hV : Below w.heap.size w V) => (rFind7_any x po pc p V (few_fine (hx.grow hV) hf (by decide)) (Nat.le_trans hf.wt (by decide)) (hp.grow hV) hpt).mono (fun e W h => find_o (p := p) (few_fine (hx.grow hV) hf (by decide)) rfl h))
  have HS1 := hq (fun (hf : FewV x.m 300) (hg : FewV u.m 300) V (hV : Below w.heap.size w V) => (pSet_any x u po pc p V (hE.grow hV) (few_fine (hx.grow hV) hf (by decide)) (few_fine (hu.grow hV) hg (by decide)) (hp.grow hV) hpt).mono (fun e W h => set_o (few_fine (hx.grow hV) hf (by decide)) (few_fine (hu.grow hV) hg (by decide)) h))
  have HS2 := hq (fun (hf : FewV x.m 300) (hg : FewV u.m 300) V (hV : Below w.heap.size w V) => (rSet7_any x u po pc p V (few_fine (hx.grow hV) hf (by decide)) (few_fine (hu.grow hV) hg (by decide)) (Nat.le_trans hf.wt (by decide)) (Nat.le_trans hg.wt (by decide)) (hp.grow hV) hpt).mono (fun e W h => set_o (few_fine (hx.grow hV) hf (by decide)) (few_fine (hu.grow hV) hg (by decide)) h))
  have HTX : Hq (FewV x.m 300 → IsT x.m x.v w) := hq (fun hf => ⟨x, rfl, few_fine hx hf (by decide), rfl⟩)
  have HTU : Hq (FewV u.m 300 → IsT u.m u.v w) := hq (fun hf => ⟨u, rfl, few_fine hu hf (by decide), rfl⟩)
  have HP : Hq (∀ W', Below w.heap.size w W' → BPost true w (.returned (.bool true)) W') := hq (fun W' h => ⟨rfl, h⟩)
  generalize BPost true w = PP at *
  have hpl : p.length ≤ pc := hp.le
  have hpcp : pc ≤ maxLen := hp.cp
  unfold maxLen at hpcp
  clear hE hM hx hu hp hpt
  obtain ⟨k, t, ⟨ko, kc, kl⟩, o, c, is⟩ := x
  obtain ⟨k', t', ⟨ko', kc', kl'⟩, o', c', is'⟩ := u
  rw [Vt.v_mk'] at *
  rw [Vt.v_mk'] at *
  generalize (Vt.mk k t ⟨ko, kc, kl⟩ o c is).m = X at *
  generalize (Vt.mk k' t' ⟨ko', kc', kl'⟩ o' c' is').m = U at *
  obtain ⟨hb0, hw0, hw1⟩ := two_boxes w 37 #[.int .i64 k, .string (st t), .slice ko kl.length kc, .slice o is.length c] #[.int .i64 k', .string (st t'), .slice ko' kl'.length kc', .slice o' is'.length c']
  have HB0 := hq hb0
  have HW0 := hq hw0
  have HW1 := hq hw1
  clear hb0 hw0 hw1
  go_enter Tryz.func4, Tryz.ntmps4
  go_upto_region 1 with fail
  generalize w.heap.size = g0 at HW0 HW1
  generalize ((w.alloc (.cells #[.int .i64 k, .string (st t), .slice ko kl.length kc, .slice o is.length c] 37)).alloc (.cells #[.int .i64 k', .string (st t'), .slice ko' kl'.length kc', .slice o' is'.length c'] 37)) = V0 at *
  have HC0 := hq (fun V (hV : Below V0.heap.size V0 V) => And.intro (four_cells (HW0.o.grow hV)) (four_cells (HW1.o.grow hV)))
  clear HW0 HW1
  have HC := HSM.o V0 HB0.o
  clear HSM
  go_wp2_with fail
  refine HC.mono ?_
  rintro e w1 ⟨rfl, hb1⟩
  have HV1 := hq hb1
  have HB1 := hq (below_trans HB0.o hb1)
  clear HC hb1
  obtain ⟨⟨c0, c1, c2, c3⟩, d0, d1, d2, d3⟩ := HC0.o w1 HV1.o
  go_wp2_with fail
  refine (HFX.o w1 HB1.o).mono ?_
  rintro e w2 ⟨fx, rfl, hfx, hb2⟩
  have HHX := hq hfx
  have HV2 := hq (below_trans HV1.o hb2)
  have HB2 := hq (below_trans HB1.o hb2)
  clear hb2 hfx HFX c0 c1 c2 c3 d0 d1 d2 d3 HV1 HB1
  cases fx with
  | false =>
    have HV := hq (HP.o w2 HB2.o)
    clear HFU HSP HC1 HC2 HF1 HF2 HS1 HS2 HP HC0
    go_wp2_with fail
    exact HV.o
  | true =>
  have HFX := hq (HHX.o rfl)
  clear HHX
  obtain ⟨⟨c0, c1, c2, c3⟩, d0, d1, d2, d3⟩ := HC0.o w2 HV2.o
  go_wp2_with fail
  refine (HFU.o w2 HB2.o).mono ?_
  rintro e w3 ⟨fu, rfl, hfu, hb3⟩
  have HHU := hq hfu
  have HV3 := hq (below_trans HV2.o hb3)
  have HB3 := hq (below_trans HB2.o hb3)
  clear hb3 hfu HFU c0 c1 c2 c3 d0 d1 d2 d3 HV2 HB2
  cases fu with
  | false =>
    have HV := hq (HP.o w3 HB3.o)
    clear HSP HC1 HC2 HF1 HF2 HS1 HS2 HP HC0
    go_wp2_with fail
    exact HV.o
  | true =>
  have HFU := hq (show FewV U 300 from by first | exact HHU.o rfl | exact HHU.o trivial)
  clear HHU
  go_wp2_with fail
  refine (HSP.o w3 HB3.o).mono ?_
  rintro e w4 ⟨⟨vp, rfl, hvp⟩, hw4⟩
  obtain rfl := hw4.symm
  clear hw4 hvp HSP
  cases vp with
  | false =>
    have HV := hq (HP.o w3 HB3.o)
    clear HC1 HC2 HF1 HF2 HS1 HS2 HP HC0
    go_wp2_with fail
    exact HV.o
  | true =>
  replace HC1 := hq (HC1.o HFX.o)
  replace HC2 := hq (HC2.o HFU.o)
  replace HF1 := hq (HF1.o HFX.o)
  replace HF2 := hq (HF2.o HFX.o)
  replace HS1 := hq (HS1.o HFX.o HFU.o)
  replace HS2 := hq (HS2.o HFX.o HFU.o)
  replace HTX := hq (HTX.o HFX.o)
  replace HTU := hq (HTU.o HFU.o)
  clear HFX HFU
  obtain ⟨⟨c0, c1, c2, c3⟩, d0, d1, d2, d3⟩ := HC0.o w3 HV3.o
  have HC := HC1.o w3 HB3.o
  go_wp2_with fail
  refine HC.mono ?_
  rintro e wa ⟨y, rfl, ⟨hyf, hym⟩, hbn⟩
  have HITa := hq (show IsT _ y.v wa from ⟨y, rfl, hyf, hym⟩)
  have HVx := hq (below_trans HV3.o hbn)
  have HBx := hq (below_trans HB3.o hbn)
  clear HC hbn hyf hym c0 c1 c2 c3 d0 d1 d2 d3 HV3 HB3 HC1
  obtain ⟨ak, at', ⟨ako, akc, akl⟩, ao, ac, ais⟩ := y
  rw [Vt.v_mk'] at *
  have HWOa := hq (Whole.made wa 37 #[.int .i64 ak, .string (st at'), .slice ako akl.length akc, .slice ao ais.length ac])
  have HAL := hq (below_alloc wa (.cells #[.int .i64 ak, .string (st at'), .slice ako akl.length akc, .slice ao ais.length ac] 37))
  go_upto_region 6 with fail
  have HVa := hq (below_trans HVx.o HAL.o)
  have HBa := hq (below_trans HBx.o HAL.o)
  replace HITa := hq (HITa.o.grow HAL.o)
  clear HAL HVx HBx
  generalize wa.heap.size = ga at HWOa ⊢
  generalize (wa.alloc (.cells #[.int .i64 ak, .string (st at'), .slice ako akl.length akc, .slice ao ais.length ac] 37)) = Va at *
  obtain ⟨⟨c0, c1, c2, c3⟩, d0, d1, d2, d3⟩ := HC0.o Va HVa.o
  have HC := HC2.o Va HBa.o
  go_wp2_with fail
  refine HC.mono ?_
  rintro e wb ⟨y, rfl, ⟨hyf, hym⟩, hbn⟩
  have HITb := hq (show IsT _ y.v wb from ⟨y, rfl, hyf, hym⟩)
  have HVx := hq (below_trans HVa.o hbn)
  have HBx := hq (below_trans HBa.o hbn)
  replace HITa := hq (HITa.o.grow hbn)
  replace HWOa := hq (HWOa.o.grow hbn)
  clear HC hbn hyf hym c0 c1 c2 c3 d0 d1 d2 d3 HVa HBa HC2
  obtain ⟨bk, bt', ⟨bko, bkc, bkl⟩, bo, bc, bis⟩ := y
  rw [Vt.v_mk'] at *
  have HWOb := hq (Whole.made wb 37 #[.int .i64 bk, .string (st bt'), .slice bko bkl.length bkc, .slice bo bis.length bc])
  have HAL := hq (below_alloc wb (.cells #[.int .i64 bk, .string (st bt'), .slice bko bkl.length bkc, .slice bo bis.length bc] 37))
  go_upto_region 7 with fail
  have HVb := hq (below_trans HVx.o HAL.o)
  have HBb := hq (below_trans HBx.o HAL.o)
  replace HITa := hq (HITa.o.grow HAL.o)
  replace HWOa := hq (HWOa.o.grow HAL.o)
  replace HITb := hq (HITb.o.grow HAL.o)
  clear HAL HVx HBx
  generalize wb.heap.size = gb at HWOb ⊢
  generalize (wb.alloc (.cells #[.int .i64 bk, .string (st bt'), .slice bko bkl.length bkc, .slice bo bis.length bc] 37)) = Vb at *
  have HWXa := hq HWOa.o
  have HWXb := hq HWOb.o
  have HTXa := hq HITa.o
  have HTXb := hq HITb.o
  have HVB := hq HVb.o
  have HBB := hq HBb.o
  obtain ⟨⟨c0, c1, c2, c3⟩, d0, d1, d2, d3⟩ := HC0.o Vb HVb.o
  have HC := HF1.o Vb HBb.o
  go_wp2_with fail
  refine HC.mono ?_
  rintro e wf ⟨y, rfl, ⟨hyo, hyf, hym⟩, hbn⟩
  have HITf := hq (show IsT _ y.v wf from ⟨y, rfl, hyf, hym⟩)
  have HOWf := hq (hyo.base (Nat.le_refl Vb.heap.size)).shp
  have HSOf := hq (fun (z : Int) V (h : y.Shp Vb.heap.size V) (hV : Vb.heap.size ≤ V.heap.size) => spoilV_any Vb.heap.size y z V h hV)
  have HVx := hq (below_trans HVb.o hbn)
  have HBx := hq (below_trans HBb.o hbn)
  replace HITa := hq (HITa.o.grow hbn)
  replace HWOa := hq (HWOa.o.grow hbn)
  replace HITb := hq (HITb.o.grow hbn)
  replace HWOb := hq (HWOb.o.grow hbn)
  have HLb := hq hbn
  clear HC hbn hyo hyf hym c0 c1 c2 c3 d0 d1 d2 d3 HVb HBb HF1
  obtain ⟨fk, ft', ⟨fko, fkc, fkl⟩, fo, fc, fis⟩ := y
  rw [Vt.v_mk'] at *
  simp only [Vt.t, Vt.ks, SRow.v, Vt.row, Vt.o, Vt.is, Vt.c] at HSOf
  generalize (Vt.mk fk ft' ⟨fko, fkc, fkl⟩ fo fc fis) = Yf at *
  have HWOf := hq (Whole.made wf 37 #[.int .i64 fk, .string (st ft'), .slice fko fkl.length fkc, .slice fo fis.length fc])
  have HAL := hq (below_alloc wf (.cells #[.int .i64 fk, .string (st ft'), .slice fko fkl.length fkc, .slice fo fis.length fc] 37))
  go_upto_region 8 with fail
  have HVf := hq (below_trans HVx.o HAL.o)
  have HBf := hq (below_trans HBx.o HAL.o)
  replace HITa := hq (HITa.o.grow HAL.o)
  replace HWOa := hq (HWOa.o.grow HAL.o)
  replace HITb := hq (HITb.o.grow HAL.o)
  replace HWOb := hq (HWOb.o.grow HAL.o)
  replace HITf := hq (HITf.o.grow HAL.o)
  replace HOWf := hq (HOWf.o.spl (Spl.of HAL.o HLb.o.size))
  replace HLb := hq (below_trans HLb.o HAL.o)
  clear HAL HVx HBx
  generalize wf.heap.size = gf at HWOf ⊢
  generalize (wf.alloc (.cells #[.int .i64 fk, .string (st ft'), .slice fko fkl.length fkc, .slice fo fis.length fc] 37)) = Vf at *
  obtain ⟨⟨c0, c1, c2, c3⟩, d0, d1, d2, d3⟩ := HC0.o Vf HVf.o
  have HC := HF2.o Vf HBf.o
  go_wp2_with fail
  refine HC.mono ?_
  rintro e wh ⟨y, rfl, ⟨hyo, hyf, hym⟩, hbn⟩
  have HITh := hq (show IsT _ y.v wh from ⟨y, rfl, hyf, hym⟩)
  have HVx := hq (below_trans HVf.o hbn)
  have HBx := hq (below_trans HBf.o hbn)
  replace HITa := hq (HITa.o.grow hbn)
  replace HWOa := hq (HWOa.o.grow hbn)
  replace HITb := hq (HITb.o.grow hbn)
  replace HWOb := hq (HWOb.o.grow hbn)
  replace HITf := hq (HITf.o.grow hbn)
  replace HWOf := hq (HWOf.o.grow hbn)
  replace HOWf := hq (HOWf.o.spl (Spl.of hbn HLb.o.size))
  replace HLb := hq (below_trans HLb.o hbn)
  clear HC hbn hyo hyf hym c0 c1 c2 c3 d0 d1 d2 d3 HVf HBf HF2
  obtain ⟨hk, ht', ⟨hko, hkc, hkl⟩, ho, hc, his⟩ := y
  rw [Vt.v_mk'] at *
  have HWOh := hq (Whole.made wh 37 #[.int .i64 hk, .string (st ht'), .slice hko hkl.length hkc, .slice ho his.length hc])
  have HAL := hq (below_alloc wh (.cells #[.int .i64 hk, .string (st ht'), .slice hko hkl.length hkc, .slice ho his.length hc] 37))
  go_upto_region 9 with fail
  have HVh := hq (below_trans HVx.o HAL.o)
  have HBh := hq (below_trans HBx.o HAL.o)
  replace HITa := hq (HITa.o.grow HAL.o)
  replace HWOa := hq (HWOa.o.grow HAL.o)
  replace HITb := hq (HITb.o.grow HAL.o)
  replace HWOb := hq (HWOb.o.grow HAL.o)
  replace HITf := hq (HITf.o.grow HAL.o)
  replace HWOf := hq (HWOf.o.grow HAL.o)
  replace HITh := hq (HITh.o.grow HAL.o)
  replace HOWf := hq (HOWf.o.spl (Spl.of HAL.o HLb.o.size))
  replace HLb := hq (below_trans HLb.o HAL.o)
  clear HAL HVx HBx
  generalize wh.heap.size = gh at HWOh ⊢
  generalize (wh.alloc (.cells #[.int .i64 hk, .string (st ht'), .slice hko hkl.length hkc, .slice ho his.length hc] 37)) = Vh at *
  obtain ⟨⟨c0, c1, c2, c3⟩, d0, d1, d2, d3⟩ := HC0.o Vh HVh.o
  have HC := HS1.o Vh HBh.o
  go_wp2_with fail
  refine HC.mono ?_
  rintro e wm ⟨y, rfl, ⟨hyo, hyf, hym⟩, hbn⟩
  have HITm := hq (show IsT _ y.v wm from ⟨y, rfl, hyf, hym⟩)
  have HOWm := hq (hyo.base HLb.o.size).shp
  have HSOm := hq (fun (z : Int) V (h : y.Shp Vb.heap.size V) (hV : Vb.heap.size ≤ V.heap.size) => spoilV_any Vb.heap.size y z V h hV)
  have HVx := hq (below_trans HVh.o hbn)
  have HBx := hq (below_trans HBh.o hbn)
  replace HITa := hq (HITa.o.grow hbn)
  replace HWOa := hq (HWOa.o.grow hbn)
  replace HITb := hq (HITb.o.grow hbn)
  replace HWOb := hq (HWOb.o.grow hbn)
  replace HITf := hq (HITf.o.grow hbn)
  replace HWOf := hq (HWOf.o.grow hbn)
  replace HITh := hq (HITh.o.grow hbn)
  replace HWOh := hq (HWOh.o.grow hbn)
  replace HOWf := hq (HOWf.o.spl (Spl.of hbn HLb.o.size))
  replace HLb := hq (below_trans HLb.o hbn)
  clear HC hbn hyo hyf hym c0 c1 c2 c3 d0 d1 d2 d3 HVh HBh HS1
  obtain ⟨mk, mt', ⟨mko, mkc, mkl⟩, mo, mc, mis⟩ := y
  rw [Vt.v_mk'] at *
  simp only [Vt.t, Vt.ks, SRow.v, Vt.row, Vt.o, Vt.is, Vt.c] at HSOm
  generalize (Vt.mk mk mt' ⟨mko, mkc, mkl⟩ mo mc mis) = Ym at *
  have HWOm := hq (Whole.made wm 37 #[.int .i64 mk, .string (st mt'), .slice mko mkl.length mkc, .slice mo mis.length mc])
  have HAL := hq (below_alloc wm (.cells #[.int .i64 mk, .string (st mt'), .slice mko mkl.length mkc, .slice mo mis.length mc] 37))
  go_upto_region 10 with fail
  have HVm := hq (below_trans HVx.o HAL.o)
  have HBm := hq (below_trans HBx.o HAL.o)
  replace HITa := hq (HITa.o.grow HAL.o)
  replace HWOa := hq (HWOa.o.grow HAL.o)
  replace HITb := hq (HITb.o.grow HAL.o)
  replace HWOb := hq (HWOb.o.grow HAL.o)
  replace HITf := hq (HITf.o.grow HAL.o)
  replace HWOf := hq (HWOf.o.grow HAL.o)
  replace HITh := hq (HITh.o.grow HAL.o)
  replace HWOh := hq (HWOh.o.grow HAL.o)
  replace HITm := hq (HITm.o.grow HAL.o)
  replace HOWf := hq (HOWf.o.spl (Spl.of HAL.o HLb.o.size))
  replace HOWm := hq (HOWm.o.spl (Spl.of HAL.o HLb.o.size))
  replace HLb := hq (below_trans HLb.o HAL.o)
  clear HAL HVx HBx
  generalize wm.heap.size = gm at HWOm ⊢
  generalize (wm.alloc (.cells #[.int .i64 mk, .string (st mt'), .slice mko mkl.length mkc, .slice mo mis.length mc] 37)) = Vm at *
  obtain ⟨⟨c0, c1, c2, c3⟩, d0, d1, d2, d3⟩ := HC0.o Vm HVm.o
  have HC := HS2.o Vm HBm.o
  go_wp2_with fail
  refine HC.mono ?_
  rintro e wn ⟨y, rfl, ⟨hyo, hyf, hym⟩, hbn⟩
  have HITn := hq (show IsT _ y.v wn from ⟨y, rfl, hyf, hym⟩)
  have HVx := hq (below_trans HVm.o hbn)
  have HBx := hq (below_trans HBm.o hbn)
  replace HITa := hq (HITa.o.grow hbn)
  replace HWOa := hq (HWOa.o.grow hbn)
  replace HITb := hq (HITb.o.grow hbn)
  replace HWOb := hq (HWOb.o.grow hbn)
  replace HITf := hq (HITf.o.grow hbn)
  replace HWOf := hq (HWOf.o.grow hbn)
  replace HITh := hq (HITh.o.grow hbn)
  replace HWOh := hq (HWOh.o.grow hbn)
  replace HITm := hq (HITm.o.grow hbn)
  replace HWOm := hq (HWOm.o.grow hbn)
  replace HOWf := hq (HOWf.o.spl (Spl.of hbn HLb.o.size))
  replace HOWm := hq (HOWm.o.spl (Spl.of hbn HLb.o.size))
  replace HLb := hq (below_trans HLb.o hbn)
  clear HC hbn hyo hyf hym c0 c1 c2 c3 d0 d1 d2 d3 HVm HBm HS2
  obtain ⟨nk, nt', ⟨nko, nkc, nkl⟩, no, nc, nis⟩ := y
  rw [Vt.v_mk'] at *
  have HWOn := hq (Whole.made wn 37 #[.int .i64 nk, .string (st nt'), .slice nko nkl.length nkc, .slice no nis.length nc])
  have HAL := hq (below_alloc wn (.cells #[.int .i64 nk, .string (st nt'), .slice nko nkl.length nkc, .slice no nis.length nc] 37))
  go_upto_region 11 with fail
  have HVn := hq (below_trans HVx.o HAL.o)
  have HBn := hq (below_trans HBx.o HAL.o)
  replace HITa := hq (HITa.o.grow HAL.o)
  replace HWOa := hq (HWOa.o.grow HAL.o)
  replace HITb := hq (HITb.o.grow HAL.o)
  replace HWOb := hq (HWOb.o.grow HAL.o)
  replace HITf := hq (HITf.o.grow HAL.o)
  replace HWOf := hq (HWOf.o.grow HAL.o)
  replace HITh := hq (HITh.o.grow HAL.o)
  replace HWOh := hq (HWOh.o.grow HAL.o)
  replace HITm := hq (HITm.o.grow HAL.o)
  replace HWOm := hq (HWOm.o.grow HAL.o)
  replace HITn := hq (HITn.o.grow HAL.o)
  replace HOWf := hq (HOWf.o.spl (Spl.of HAL.o HLb.o.size))
  replace HOWm := hq (HOWm.o.spl (Spl.of HAL.o HLb.o.size))
  replace HLb := hq (below_trans HLb.o HAL.o)
  clear HAL HVx HBx
  generalize wn.heap.size = gn at HWOn ⊢
  generalize (wn.alloc (.cells #[.int .i64 nk, .string (st nt'), .slice nko nkl.length nkc, .slice no nis.length nc] 37)) = Vn at *
  obtain ⟨c0, c1, c2, c3⟩ := four_cells HWOf.o
  obtain ⟨d0, d1, d2, d3⟩ := four_cells HWOh.o
  have HC := equal_same HITf.o HITh.o
  go_wp2_with fail
  refine HC.mono ?_
  rintro e wp ⟨rfl, hbp⟩
  have HLp := hq (below_trans HLb.o hbp)
  replace HOWf := hq (HOWf.o.spl (Spl.of hbp HLb.o.size))
  replace HOWm := hq (HOWm.o.spl (Spl.of hbp HLb.o.size))
  replace HWOf := hq (HWOf.o.grow hbp)
  replace HWOm := hq (HWOm.o.grow hbp)
  replace HWOn := hq (HWOn.o.grow hbp)
  replace HITm := hq (HITm.o.grow hbp)
  replace HITn := hq (HITn.o.grow hbp)
  clear HC hbp c0 c1 c2 c3 d0 d1 d2 d3 HITf HITh HWOh HLb HITa HITb HWOa HWOb HVn HBn
  obtain ⟨c0, c1, c2, c3⟩ := four_cells HWOm.o
  obtain ⟨d0, d1, d2, d3⟩ := four_cells HWOn.o
  have HC := equal_same HITm.o HITn.o
  go_wp2_with fail
  refine HC.mono ?_
  rintro e wq ⟨rfl, hbq⟩
  have HLq := hq (below_trans HLp.o hbq)
  replace HOWf := hq (HOWf.o.spl (Spl.of hbq HLp.o.size))
  replace HOWm := hq (HOWm.o.spl (Spl.of hbq HLp.o.size))
  replace HWOf := hq (HWOf.o.grow hbq)
  have HBXm := hq (BoxS.of (HWOm.o.grow hbq))
  clear HC hbq c0 c1 c2 c3 d0 d1 d2 d3 HITm HITn HWOn HWOm HLp
  obtain ⟨c0, c1, c2, c3⟩ := four_cells HWOf.o
  have HC := HSOf.o fk wq HOWf.o HLq.o.size
  go_wp2_with fail
  refine HC.mono ?_
  rintro e wr ⟨rfl, hsr⟩
  have HLr := hq (HLq.o.trans hsr.below)
  have HOWm2 := hq (HOWm.o.spl hsr)
  obtain ⟨mz, d0, d1, d2, d3⟩ := (HBXm.o.spl rfl rfl hsr).all
  have HC := HSOm.o mz wr HOWm2.o HLr.o.size
  clear hsr c0 c1 c2 c3 HOWf HSOf HWOf HBXm HLq HOWm
  go_wp2_with fail
  refine HC.mono ?_
  rintro e ws ⟨rfl, hss⟩
  have HLs := hq (HLr.o.trans hss.below)
  have HVs := hq (below_trans HVB.o HLs.o)
  have HBs := hq (below_trans HBB.o HLs.o)
  clear HC hss d0 d1 d2 d3 HSOm HOWm2 HLr
  obtain ⟨⟨c0, c1, c2, c3⟩, _⟩ := HC0.o ws HVs.o
  obtain ⟨d0, d1, d2, d3⟩ := four_cells (HWXa.o.grow HLs.o)
  have HC := equal_same (HTX.o.grow HBs.o) (HTXa.o.grow HLs.o)
  go_wp2_with fail
  refine HC.mono ?_
  rintro e wt ⟨rfl, hbt⟩
  have HLt := hq (below_trans HLs.o hbt)
  have HVt := hq (below_trans HVs.o hbt)
  have HBt := hq (below_trans HBs.o hbt)
  clear HC hbt c0 c1 c2 c3 d0 d1 d2 d3 HLs HVs HBs
  obtain ⟨_, c0, c1, c2, c3⟩ := HC0.o wt HVt.o
  obtain ⟨d0, d1, d2, d3⟩ := four_cells (HWXb.o.grow HLt.o)
  have HC := equal_same (HTU.o.grow HBt.o) (HTXb.o.grow HLt.o)
  go_wp2_with fail
  refine HC.mono ?_
  rintro e wu ⟨rfl, hbu⟩
  have HV := hq (HP.o wu (below_trans HBt.o hbu))
  clear HC hbu HP HC0
  go_wp2_with fail
  first | exact HV.o | (go_ret; exact HV.o) | simpa using HV.o
end Go.Proofs.YtabfojdieegklaaGreatDoor
