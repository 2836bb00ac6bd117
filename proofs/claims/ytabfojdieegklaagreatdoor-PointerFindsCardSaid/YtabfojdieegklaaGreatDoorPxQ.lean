/-
  WALK: the document's Find of paths.
-/
import Derived.Test.YtabfojdieegklaaGreatDoorPxP
namespace Go.Proofs.YtabfojdieegklaaGreatDoor
open Go.RowKit

theorem pget_step {s : Bs} {r : List Bs} {k : Int} {t : Bs} {ks : List Bs} {is : List Vl} {i : Nat} (hb : (belowM (.mk k t ks is) s).2 = true) (hi : (belowM (.mk k t ks is) s).1 = (i : Int)) {z : Vl} (hz : is[i]? = some z) : pgetM (s :: r) (.mk k t ks is) = pgetM r z := by
  rw [pgetM, if_pos hb, hi]
  show (match is[i]? with
    | some z => pgetM r z
    | none => none) = _
  rw [hz]
set_option maxHeartbeats 8000000 in
set_option maxRecDepth 1000000 in
theorem rFind7_any (x : Vt) (po : Option Addr) (pc : Nat) (path : List Bs) (w : World) (hx : Fine x w) (hwt : x.m.weight ≤ 1000000) (hp : (⟨po, pc, path⟩ : SRow).ok w) (hpt : Room path) : Calls Tryz.prog 30 #[x.v, .slice po path.length pc] w (GetPost (pfindM x.m path) w) := by
  have HRI := hq (fun V (hV : Below w.heap.size w V) => rright7_any ⟨po, pc, path⟩ V (hp.grow hV) hpt)
  have HOA := hq (fun V (hV : Below w.heap.size w V) => ropenV_any x V (hx.grow hV))
  have HST := hq (fun (z : Vt) V (hz : z.Ok V) (s : Bs) (hs : s ∈ path) => rstep_any z s V hz (hpt s hs))
  have HCL := hq (fun (z : Vt) V (hz : z.Ok V) (hw : z.m.weight ≤ 1000000) => clone_any z V hz hw)
  have HPG := hq (fun V (hV : Below w.heap.size w V) => (hp.grow hV).rd)
  have HFN : Hq (¬ (pgoodB path = true ∧ openM x.m = true) → pfindM x.m path = none) := hq (fun h => by unfold pfindM; rw [if_neg h])
  have HFS : Hq (pgoodB path = true → openM x.m = true → pfindM x.m path = pgetM path x.m) := hq (fun h1 h2 => by unfold pfindM; rw [if_pos ⟨h1, h2⟩])
  have HXO := hq hx.ok
  have HP : Hq (∀ (r : Option Vl) (y : Vt) W', pfindM x.m path = r → y.Own 37 9 w.heap.size (fun _ => True) W' → y.m = r.getD zeroL → Below w.heap.size w W' → GetPost (pfindM x.m path) w (.returned (.tuple #[y.v, .bool r.isSome])) W') := hq (fun r y W' h h1 h2 h3 => by rw [h]; exact ⟨y, rfl, h1, h2, h3⟩)
  generalize GetPost (pfindM x.m path) w = PP at *
  generalize pfindM x.m path = FM at *
  have hpl : path.length ≤ pc := hp.le
  have hpc : pc ≤ maxLen := hp.cp
  unfold maxLen at hpc
  clear hx hp hpt
  have HWT := hq hwt
  clear hwt
  obtain ⟨hb0, hw0, hw1⟩ := two_boxes w 37 #[.int .i64 x.k, .string (st x.t), x.ks.v, x.row] #[.int .i64 0, .string ⟨#[]⟩, .slice none 0 0, .slice none 0 0]
  have HB0 := hq hb0
  have HW0 := hq hw0
  have HW1 := hq hw1
  clear hb0 hw0 hw1
  have HXX : ∃ X, X = x := ⟨x, rfl⟩
  obtain ⟨X, hX⟩ := HXX
  rw [← hX] at HFN HFS HXO HWT
  have HX := hq hX
  clear hX
  obtain ⟨k, t, ⟨ko, kc, kl⟩, o, c, is⟩ := x
  rw [Vt.v_mk'] at *
  simp only [Vt.k, Vt.t, Vt.ks, SRow.v, Vt.row, Vt.o, Vt.is, Vt.c] at HB0 HW0 HW1 HRI
  go_enter Tryz.func30, Tryz.ntmps30
  go_upto_region 1 with fail
  have HZER : Hq (∀ V, Below w.heap.size w V → FM = none → PP (.returned (.tuple #[zeroT.v, .bool false])) ((((V.setCell ⟨w.heap.size + 1, 0, none⟩ (.int .i64 0)).setCell ⟨w.heap.size + 1, 1, none⟩ (.string ⟨#[]⟩)).setCell ⟨w.heap.size + 1, 2, none⟩ (.slice none 0 0)).setCell ⟨w.heap.size + 1, 3, none⟩ (.slice none 0 0))) := hq (fun V h1 h2 => HP.o none zeroT _ h2 (zeroT_own _ _) zeroT_m (below_put4 h1 (by omega) _ _ _ _))
  have HGW : Hq (w.heap.size ≤ w.heap.size ∧ w.heap.size ≤ w.heap.size + 1) := hq (by omega)
  generalize ((w.alloc (.cells #[.int .i64 k, .string (st t), .slice ko kl.length kc, .slice o is.length c] 37)).alloc (.cells #[.int .i64 0, .string ⟨#[]⟩, .slice none 0 0, .slice none 0 0] 37)) = V0 at *
  obtain ⟨c0, c1, c2, c3⟩ := four_cells HW0.o
  have HC := HOA.o V0 HB0.o
  clear HOA
  go_wp2_with fail
  refine HC.mono ?_
  rintro e w1 ⟨rfl, hb1⟩
  have HB1 := hq (below_trans HB0.o hb1)
  replace HW0 := hq (HW0.o.grow hb1)
  replace HW1 := hq (HW1.o.grow hb1)
  have HC := HRI.o w1 HB1.o
  unfold BoolPost at HC
  clear hb1 HRI c0 c1 c2 c3 HB0
  rw [← HX.o]
  go_wp2_with fail
  refine HC.mono ?_
  rintro e w2 ⟨rfl, hb2⟩
  have HB2 := hq (below_trans HB1.o hb2)
  replace HW0 := hq (HW0.o.grow hb2)
  replace HW1 := hq (HW1.o.grow hb2)
  clear HC hb2 HB1
  have hcs : (openM X.m = true ∧ pgoodB path = true) ∨ (openM X.m = false) ∨ (openM X.m = true ∧ pgoodB path = false) := by cases openM X.m <;> cases pgoodB path <;> simp
  rcases hcs with ⟨ho, hg⟩ | ho | ⟨ho, hg⟩
  case inr.inl =>
    have HV := hq (HZER.o w2 HB2.o (HFN.o (fun h => by rw [ho] at h; cases h.2)))
    obtain ⟨r0, r1, r2, r3⟩ := four_cells HW1.o
    obtain ⟨f0, f1, f2, f3⟩ := four_freeP HW1.o
    rw [ho]
    clear HST HCL HPG HFN HFS HP HZER ho HB2
    go_wp2_with fail
    refine bodyPost_ret (v := .tuple #[zeroT.v, .bool false]) ?_ rfl HV.o
    simp [results, Tryz.results30, go_sem, r0, r1, r2, r3, zeroT, Vt.v_mk']
  case inr.inr =>
    have HV := hq (HZER.o w2 HB2.o (HFN.o (fun h => by rw [hg] at h; cases h.1)))
    obtain ⟨r0, r1, r2, r3⟩ := four_cells HW1.o
    obtain ⟨f0, f1, f2, f3⟩ := four_freeP HW1.o
    rw [ho, hg]
    clear HST HCL HPG HFN HFS HP HZER ho hg HB2
    go_wp2_with fail
    refine bodyPost_ret (v := .tuple #[zeroT.v, .bool false]) ?_ rfl HV.o
    simp [results, Tryz.results30, go_sem, r0, r1, r2, r3, zeroT, Vt.v_mk']
  case inl =>
  have HFM := hq (HFS.o hg ho)
  have HOP := hq ho
  rw [ho, hg]
  clear HFN HFS ho hg
  have HWX := hq (show Whole w2 w.heap.size 37 #[.int .i64 X.k, .string (st X.t), X.ks.v, X.row] from by rw [HX.o]; exact HW0.o)
  clear HW0 HX
  go_wp2_with fail
  generalize hg0 : w.heap.size = g0 at HGW HZER HWX HW1 ⊢
  have HG0 := hq hg0
  clear hg0
  go_loopw [8, 9] (fun i _ wr => ∃ (j : Nat) (z : Vt), j ≤ path.length ∧ i = .int .i64 (j : Int) ∧ Hq (z.Ok w ∧ z.m.weight ≤ 1000000 ∧ openM z.m = true) ∧ Hq (FM = pgetM (path.drop j) z.m) ∧ Hq (Whole wr g0 37 #[.int .i64 z.k, .string (st z.t), z.ks.v, z.row] ∧ Whole wr (g0 + 1) 37 #[.int .i64 0, .string ⟨#[]⟩, .slice none 0 0, .slice none 0 0] ∧ Below w.heap.size w wr)) (fun i _ _ => path.length - (intOf i).toNat)
  case atStart => exact ⟨0, X, Nat.zero_le _, rfl, hq ⟨HXO.o, HWT.o, HOP.o⟩, HFM, hq ⟨HWX.o, HW1.o, HB2.o⟩⟩
  case round =>
    clear HFM HWX HW1 HB2 HXO HWT HOP
    obtain ⟨j, z, hj, rfl, hz, hfm, hW⟩ := hrel
    have HC4 := hq (fun V (hV : Below wr.heap.size wr V) => And.intro (hW.o.1.grow hV) (hW.o.2.1.grow hV))
    have HZR := hq (fun V (hV : Below wr.heap.size wr V) => hz.o.1.grow (below_trans hW.o.2.2 hV))
    have HBR := hq (fun V (hV : Below wr.heap.size wr V) => below_trans hW.o.2.2 hV)
    have HGT := hq (open_good hz.o.2.2)
    have HWZ := hq hz.o.2.1
    have HZO := hq hz.o.1
    have HOPZ := hq hz.o.2.2
    by_cases h : j < path.length
    · have hjz : (j : Int) < (path.length : Int) := by omega
      have HSP := hq (show path[j] ∈ path from List.getElem_mem h)
      have HSM := hq (fun V (hz : z.Ok V) => HST.o z V hz path[j] HSP.o)
      have HNG : Hq (stepM z.m path[j] < 0 → FM = none) := hq (fun hn => by
        rw [hfm.o, List.drop_eq_getElem_cons h, pgetM, step_neg hn]; rfl)
      have HPS : Hq (∀ (i : Nat) (y : Vl), ¬ stepM z.m path[j] < 0 → (belowM z.m path[j]).1 = (i : Int) → z.m.is[i]? = some y → FM = pgetM (path.drop (j + 1)) y) := hq (fun i y hn hi hy => by
        rw [hfm.o, List.drop_eq_getElem_cons h]
        obtain ⟨hb, _⟩ := step_pos hn
        generalize z.m = ZM at *
        obtain ⟨zk, zt, zks, zis⟩ := ZM
        exact pget_step hb hi hy)
      have HBI : Hq (¬ stepM z.m path[j] < 0 → ∃ i : Nat, i < z.is.length ∧ stepM z.m path[j] = (i : Int) ∧ (belowM z.m path[j]).1 = (i : Int)) := hq (fun hn => by
        obtain ⟨hb, he⟩ := step_pos hn
        obtain ⟨zk, zt, zks, zo, zc, zis⟩ := z
        obtain ⟨i, hi, hbi⟩ := below_in HGT.o.1 hb
        exact ⟨i, hi, by rw [he, hbi], hbi⟩)
      obtain ⟨pb, pf, rfl, m0⟩ := HPG.o wr (HBR.o wr (Below.refl _ _)) j h
      have HMG := hq (fun V (hV : Below wr.heap.size wr V) => (hV.cell (p := ⟨pb, pf + j, none⟩) (cell_blk m0)).trans m0)
      generalize path[j] = s at *
      obtain ⟨zk, zt, ⟨zko, zkc, zkl⟩, zo, zc, zis⟩ := z
      rw [Vt.v_mk'] at HSM
      simp only [Vt.k, Vt.t, Vt.ks, SRow.v, Vt.row, Vt.o, Vt.is, Vt.c] at HC4 HBI
      obtain ⟨c0, c1, c2, c3⟩ := four_cells (HC4.o wr (Below.refl _ _)).1
      have HSG := hq (fun V (hV : Below wr.heap.size wr V) => And.intro hV (And.intro (four_cells (HC4.o V hV).1) (HMG.o V hV)))
      have hT0 := HSG.o wr (Below.refl _ _)
      have hzl := HZO.o.hl
      have hzc := HZO.o.hc
      unfold maxLen at hzc
      clear hfm hW hz HPG HST
      go_upto_region 8 with fail
      go_region_held3 (fun V => Below wr.heap.size wr V ∧ (V.cell? ⟨g0, 0, none⟩ = some (.int .i64 zk) ∧ V.cell? ⟨g0, 1, none⟩ = some (.string (st zt)) ∧ V.cell? ⟨g0, 2, none⟩ = some (.slice zko zkl.length zkc) ∧ V.cell? ⟨g0, 3, none⟩ = some (.slice zo zis.length zc)) ∧ V.cell? ⟨pb, pf + j, none⟩ = some (.string (st s)))
        (first | exact hT0 | exact HSG.o _ ((Below.refl _ _).drew) | exact hT2)
        ((go_at_call 70; refine (HSM.o _ (HZR.o _ (And.left (by with_reducible assumption)))).mono ?_; rintro e' w9 ⟨rfl, hb9⟩; have hT2 := HSG.o w9 (below_trans (And.left (by with_reducible assumption)) hb9)))
      have HB9 := hq hT2.1
      clear hT2 hT0 HSG HSM c0 c1 c2 c3 m0 HMG
      obtain ⟨⟨d0, d1, d2, d3⟩, r0, r1, r2, r3⟩ := (show _ ∧ _ from ⟨four_cells (HC4.o w9 HB9.o).1, four_cells (HC4.o w9 HB9.o).2⟩)
      by_cases hn : stepM (Vt.mk zk zt ⟨zko, zkc, zkl⟩ zo zc zis).m s < 0
      · have HV := hq (HZER.o w9 (by rw [← HG0.o]; exact HBR.o w9 HB9.o) (HNG.o hn))
        obtain ⟨f0, f1, f2, f3⟩ := four_freeP (HC4.o w9 HB9.o).2
        generalize stepM (Vt.mk zk zt ⟨zko, zkc, zkl⟩ zo zc zis).m s = SM at *
        clear HPS HBI HNG HZER HP HCL HZR HBR HC4
        go_wp2_with fail
        refine bodyPost_ret (v := .tuple #[zeroT.v, .bool false]) ?_ rfl HV.o
        simp [results, Tryz.results30, go_sem, r0, r1, r2, r3, zeroT, Vt.v_mk']
      · obtain ⟨i, hi, hsi, hbi⟩ := HBI.o (by first | exact hn | omega)
        obtain ⟨b, f, ho, hia⟩ := (HZR.o w9 HB9.o).at_ i hi
        have HOKI := hq (show zis[i].Ok w from HZO.o.item i hi)
        have HIM : Hq (zis[i].m ∈ (Vt.mk zk zt ⟨zko, zkc, zkl⟩ zo zc zis).m.is) := hq (by rw [Vt.m_mk]; exact List.mem_map.2 ⟨_, List.getElem_mem hi, rfl⟩)
        have HF2 := hq (HPS.o i zis[i].m (by first | exact hn | omega) hbi (by rw [Vt.m_mk]; simp [Vl.is, hi]))
        have HWI : Hq (zis[i].m.weight ≤ 1000000) := hq (Nat.le_trans (by rw [Vt.m_mk]; exact weight_item (List.mem_map.2 ⟨_, List.getElem_mem hi, rfl⟩)) HWZ.o)
        have HOPI : Hq (openM zis[i].m = true) := hq (by
          have hm : zis[i].m ∈ zis.map Vt.m := List.mem_map.2 ⟨_, List.getElem_mem hi, rfl⟩
          obtain ⟨h1, h2, h3⟩ := HGT.o
          rw [Vt.m_mk] at h1 h2 h3
          have h3' : (Vl.mk zk zt zkl (zis.map Vt.m)).depth ≤ 32 := h3
          unfold openM
          simp only [Bool.and_eq_true, decide_eq_true_eq]
          refine ⟨?_, ?_, h1.items _ hm⟩
          · have := size_item hm; simp only [Vl.size] at h2; omega
          · have := depth_item (k := zk) (t := zt) (ks := zkl) hm; omega)
        have hiz : (i : Int) < (zis.length : Int) := by omega
        have hn' : ¬ (i : Int) < 0 := by omega
        have HWN := hq (HC4.o w9 HB9.o).1
        have HWR := hq (HC4.o w9 HB9.o).2
        obtain ⟨f0, f1, f2, f3⟩ := four_freeP HWN.o
        rw [hsi]
        clear HPS HBI HNG HZER HP HCL HZR HC4 hn hsi hbi HZO HIM HGT HWZ HOPZ r0 r1 r2 r3
        generalize zis[i] = y at *
        subst ho
        obtain ⟨i0, i1, i2, i3⟩ := hia
        obtain ⟨yk, yt, ⟨yko, ykc, ykl⟩, yo, yc, yis⟩ := y
        simp only [Vt.k, Vt.t, Vt.ks, SRow.v, Vt.row, Vt.o, Vt.is, Vt.c] at i0 i1 i2 i3
        go_wp2_with fail
        have HWF := hq (whole_put4 HWN.o (.int .i64 yk) (.string (st yt)) (.slice yko ykl.length ykc) (.slice yo yis.length yc))
        have HWG := hq (show Whole ((((w9.setCell ⟨g0, 0, none⟩ (.int .i64 yk)).setCell ⟨g0, 1, none⟩ (.string (st yt))).setCell ⟨g0, 2, none⟩ (.slice yko ykl.length ykc)).setCell ⟨g0, 3, none⟩ (.slice yo yis.length yc)) (g0 + 1) _ _ from whole_far4 HWR.o (by omega) _ _ _ _)
        have HBF := hq (below_put4 (HBR.o w9 HB9.o) (by rw [HG0.o]; exact Nat.le_refl _ : w.heap.size ≤ g0) (.int .i64 yk) (.string (st yt)) (.slice yko ykl.length ykc) (.slice yo yis.length yc))
        clear HWN HWR HBR HB9 d0 d1 d2 d3 f0 f1 f2 f3 i0 i1 i2 i3
        go_roundw
        case rel => exact ⟨j + 1, Vt.mk yk yt ⟨yko, ykc, ykl⟩ yo yc yis, h, int_eq (by omega), hq ⟨HOKI.o, HWI.o, HOPI.o⟩, HF2, hq ⟨HWF.o, HWG.o, HBF.o⟩⟩
        case measure => simp [intOf]; omega
    · have hjz : ¬ (j : Int) < (path.length : Int) := by omega
      have hf := hfm.o
      rw [List.drop_of_length_le (by omega)] at hf
      have HF := hq (show FM = some z.m from hf)
      have HC := HCL.o z wr (HZR.o wr (Below.refl _ _)) HWZ.o
      obtain ⟨zk, zt, ⟨zko, zkc, zkl⟩, zo, zc, zis⟩ := z
      rw [Vt.v_mk'] at HC
      simp only [Vt.k, Vt.t, Vt.ks, SRow.v, Vt.row, Vt.o, Vt.is, Vt.c] at HC4
      obtain ⟨c0, c1, c2, c3⟩ := four_cells (HC4.o wr (Below.refl _ _)).1
      generalize (Vt.mk zk zt ⟨zko, zkc, zkl⟩ zo zc zis).m = ZM at *
      clear hfm hf hz HPG HST HZER HZR HCL HGT HWZ HZO HOPZ
      go_wp2_with fail
      refine HC.mono ?_
      rintro e w9 ⟨y, rfl, hyo, hym, hb9⟩
      obtain ⟨r0, r1, r2, r3⟩ := four_cells (HC4.o w9 hb9).2
      obtain ⟨f0, f1, f2, f3⟩ := four_freeP (HC4.o w9 hb9).2
      have hlt : g0 + 1 < wr.heap.size := (HC4.o wr (Below.refl _ _)).2.lt
      have HV := hq (fun a b c d => HP.o (some ZM) y ((((w9.setCell ⟨g0 + 1, 0, none⟩ a).setCell ⟨g0 + 1, 1, none⟩ b).setCell ⟨g0 + 1, 2, none⟩ c).setCell ⟨g0 + 1, 3, none⟩ d) HF.o ((own_put4 hyo hlt a b c d).base (HBR.o wr (Below.refl _ _)).size) hym (below_put4 (HBR.o w9 hb9) (by have := HG0.o; omega) a b c d))
      obtain ⟨yk, yt, ⟨yko, ykc, ykl⟩, yo, yc, yis⟩ := y
      rw [Vt.v_mk']
      clear HC hyo hym hb9 HP HF hlt HC4 HBR c0 c1 c2 c3 hW
      go_wp2_with fail
      refine bodyPost_ret (v := .tuple #[(Vt.mk yk yt ⟨yko, ykc, ykl⟩ yo yc yis).v, .bool true]) ?_ rfl (HV.o _ _ _ _)
      simp [results, Tryz.results30, go_sem, r0, r1, r2, r3, Vt.v_mk']
end Go.Proofs.YtabfojdieegklaaGreatDoor
