/-
  WALK: pointer.Set.
-/
import Derived.Test.YtabfojdieegklaaGreatDoorPxM
namespace Go.Proofs.YtabfojdieegklaaGreatDoor
open Go.RowKit

theorem psetM_all {P : Vl → Prop} (hP : ∀ k t ks is is', P (.mk k t ks is) → P (.mk k t ks is')) {w : Vl} (hw : w.All P) : ∀ (path : List Bs) (v : Vl), v.All P → (psetM path v w).All P
  | [], _, _ => hw
  | s :: r, v, h => by
    rw [psetM]
    split
    · rename_i z hz
      obtain ⟨k, t, ks, is⟩ := v
      refine .mk _ _ _ _ (hP _ _ _ _ _ h.here) (fun x hx => ?_)
      rcases List.mem_or_eq_of_mem_set hx with hx | hx
      · exact h.items x hx
      · rw [hx]; exact psetM_all hP hw r z (h.items z (List.mem_of_getElem? hz))
    · exact h
theorem sizes_set : ∀ (l : List Vl) (i : Nat) (x z : Vl), l[i]? = some z → Vl.sizes (l.set i x) + z.size = Vl.sizes l + x.size
  | [], _, _, _, h => by simp at h
  | a :: l, 0, x, z, h => by
    have : a = z := by simpa using h
    subst this
    simp only [List.set_cons_zero, Vl.sizes]; omega
  | a :: l, i + 1, x, z, h => by
    have ih := sizes_set l i x z (by simpa using h)
    simp only [List.set_cons_succ, Vl.sizes]; omega
theorem psetM_size (w : Vl) : ∀ (path : List Bs) (v : Vl), (psetM path v w).size ≤ v.size + w.size
  | [], v => by show w.size ≤ _; omega
  | s :: r, v => by
    rw [psetM]
    split
    · rename_i z hz
      obtain ⟨k, t, ks, is⟩ := v
      have ih := psetM_size w r z
      have h2 := sizes_set is _ (psetM r z w) z hz
      simp only [Vl.is, Vl.size] at h2 ⊢
      omega
    · omega
/-- what Set answers -/
def psetR (v : Vl) (path : List Bs) (w : Vl) : Vl × Int :=
  if pgoodB path = true ∧ openM v = true ∧ openM w = true then (if (pgetM path v).isSome = true then (if openM (psetM path v w) = true then (psetM path v w, 0) else (zeroL, 1)) else (zeroL, 8)) else (zeroL, 1)
def SetPost (r : Vl × Int) (W : World) (e : Ending) (W' : World) : Prop := ∃ y : Vt, e = .returned (.tuple #[y.v, .int .i64 r.2]) ∧ y.Own 37 9 W.heap.size (fun _ => True) W' ∧ y.m = r.1 ∧ Below W.heap.size W W'
theorem below_p4 {B : Nat} {a W : World} (h : Below B a W) {b : Nat} (hb : B ≤ b) (p : Nat) (n : Vt) : Below B a (p4 W b p n) := below_put (below_put (below_put (below_put h hb p _) hb (p + 1) _) hb (p + 2) _) hb (p + 3) _
set_option maxHeartbeats 16000000 in
set_option maxRecDepth 1000000 in
theorem pSet_any (x u : Vt) (po : Option Addr) (pc : Nat) (path : List Bs) (w : World) (hE : Env w) (hx : Fine x w) (hu : Fine u w) (hp : (⟨po, pc, path⟩ : SRow).ok w) (hpt : Room path) :
    Calls Tryz.prog 31 #[x.v, .slice po path.length pc, u.v] w (SetPost (psetR x.m path u.m) w) := by
  have HRI := hq (fun V (hV : Below w.heap.size w V) => pright_any ⟨po, pc, path⟩ V (hE.grow hV).tab (hp.grow hV) hpt)
  have HOX := hq (fun V (hV : Below w.heap.size w V) => open_any x V (hE.grow hV) (hx.ok.grow hV) hx.lim (by have := hx.sz; omega))
  have HOU := hq (fun V (hV : Below w.heap.size w V) => open_any u V (hE.grow hV) (hu.ok.grow hV) hu.lim (by have := hu.sz; omega))
  have HCX := hq (fun (h : openM x.m = true) V (hV : Below w.heap.size w V) => (by have := vCopyN_any x V (hE.grow hV) (hx.grow hV); rwa [if_pos h] at this : Calls Tryz.prog 68 #[x.v] V (RemPostN x.m V)))
  have HCU := hq (fun (h : openM u.m = true) V (hV : Below w.heap.size w V) => (by have := vCopyN_any u V (hE.grow hV) (hu.grow hV); rwa [if_pos h] at this : Calls Tryz.prog 68 #[u.v] V (RemPostN u.m V)))
  have HLD := hq (fun (y : Vt) V (hV : Below w.heap.size w V) (g : Nat) (hy : y.Ok V) (hi : ItemAt V g 0 y) (ho : openM y.m = true) => lead_any y g 0 po pc path V hy (open_good ho).1 hi (hp.grow hV) hpt)
  have HOA := hq (fun (y : Vt) V (hV : Below w.heap.size w V) (hy : Fine y V) => open_any y V (hE.grow hV) hy.ok hy.lim (by have := hy.sz; omega))
  have HRNG := hq (And.intro hx.ok.rng hu.ok.rng)
  have HLIM := hq (And.intro hx.lim hu.lim)
  have HR0 : Hq (¬ (pgoodB path = true ∧ openM x.m = true ∧ openM u.m = true) → psetR x.m path u.m = (zeroL, 1)) := hq (fun h => by unfold psetR; rw [if_neg h])
  have HR1 : Hq (pgoodB path = true → openM x.m = true → openM u.m = true → psetR x.m path u.m = if (pgetM path x.m).isSome = true then (if openM (psetM path x.m u.m) = true then (psetM path x.m u.m, 0) else (zeroL, 1)) else (zeroL, 8)) := hq (fun h1 h2 h3 => by unfold psetR; rw [if_pos ⟨h1, h2, h3⟩])
  have HP : Hq (∀ (r : Vl × Int) (y : Vt) W', psetR x.m path u.m = r → y.Own 37 9 w.heap.size (fun _ => True) W' → y.m = r.1 → Below w.heap.size w W' → SetPost (psetR x.m path u.m) w (.returned (.tuple #[y.v, .int .i64 r.2])) W') := hq (fun r y W' h h1 h2 h3 => by rw [h]; exact ⟨y, rfl, h1, h2, h3⟩)
  generalize SetPost (psetR x.m path u.m) w = PP at *
  generalize psetR x.m path u.m = FM at *
  have hpl : path.length ≤ pc := hp.le
  have hpc : pc ≤ maxLen := hp.cp
  unfold maxLen at hpc
  clear hx hu hE hp hpt
  obtain ⟨k, t, ⟨ko, kc, kl⟩, o, c, is⟩ := x
  obtain ⟨k', t', ⟨ko', kc', kl'⟩, o', c', is'⟩ := u
  rw [Vt.v_mk'] at *
  rw [Vt.v_mk'] at *
  simp only [SRow.v] at HRI
  generalize (Vt.mk k t ⟨ko, kc, kl⟩ o c is).m = X at *
  generalize (Vt.mk k' t' ⟨ko', kc', kl'⟩ o' c' is').m = U at *
  obtain ⟨hb0, hw0, hw1, hw2⟩ := three_boxes w 37 #[.int .i64 k, .string (st t), .slice ko kl.length kc, .slice o is.length c] #[.int .i64 k', .string (st t'), .slice ko' kl'.length kc', .slice o' is'.length c'] #[.int .i64 0, .string ⟨#[]⟩, .slice none 0 0, .slice none 0 0]
  have HB0 := hq hb0
  have HW0 := hq hw0
  have HW1 := hq hw1
  have HW2 := hq hw2
  have HZER : Hq (∀ V e, Below w.heap.size w V → FM = (zeroL, e) → PP (.returned (.tuple #[zeroT.v, .int .i64 e])) ((((V.setCell ⟨w.heap.size + 1 + 1, 0, none⟩ (.int .i64 0)).setCell ⟨w.heap.size + 1 + 1, 1, none⟩ (.string ⟨#[]⟩)).setCell ⟨w.heap.size + 1 + 1, 2, none⟩ (.slice none 0 0)).setCell ⟨w.heap.size + 1 + 1, 3, none⟩ (.slice none 0 0))) := hq (fun V e h1 h2 => HP.o (zeroL, e) zeroT _ h2 (zeroT_own _ _) zeroT_m (below_put4 h1 (by omega) _ _ _ _))
  clear hb0 hw0 hw1 hw2
  go_enter Tryz.func31, Tryz.ntmps31
  go_upto_region 1 with fail
  generalize (((w.alloc (.cells #[.int .i64 k, .string (st t), .slice ko kl.length kc, .slice o is.length c] 37)).alloc (.cells #[.int .i64 k', .string (st t'), .slice ko' kl'.length kc', .slice o' is'.length c'] 37)).alloc (.cells #[.int .i64 0, .string ⟨#[]⟩, .slice none 0 0, .slice none 0 0] 37)) = V0 at *
  have HGW : Hq (w.heap.size ≤ w.heap.size + 1 + 1) := hq (by omega)
  have HG2 := hq HW2.o.lt
  have HRC := hq (HRI.o V0 HB0.o)
  clear HRI
  go_wp2_with fail
  refine HRC.o.mono ?_
  rintro e w2 ⟨rfl, hb2⟩
  have HV2 := hq hb2
  clear HRC hb2
  have HCL := hq (fun V (hV : Below V0.heap.size V0 V) => And.intro (four_cells (HW0.o.grow hV)) (And.intro (four_cells (HW1.o.grow hV)) (And.intro (four_cells (HW2.o.grow hV)) (four_freeP (HW2.o.grow hV)))))
  have HBW := hq (fun V (hV : Below V0.heap.size V0 V) => below_trans HB0.o hV)
  cases hpg : pgoodB path with
  | false =>
    have HV := hq (HZER.o w2 1 (HBW.o w2 HV2.o) (HR0.o (fun h => by rw [hpg] at h; cases h.1)))
    obtain ⟨_, _, ⟨r0, r1, r2, r3⟩, f0, f1, f2, f3⟩ := HCL.o w2 HV2.o
    clear HOX HOU HCX HCU HLD HOA HR0 HR1 HP HZER HW0 HW1 HW2 hpg
    go_wp2_with fail
    refine bodyPost_ret (v := .tuple #[zeroT.v, .int .i64 1]) ?_ rfl HV.o
    simp [results, Tryz.results31, go_sem, r0, r1, r2, r3, zeroT, Vt.v_mk']
  | true =>
  obtain ⟨⟨c0, c1, c2, c3⟩, _⟩ := HCL.o w2 HV2.o
  have HOC := hq (HOX.o w2 (HBW.o w2 HV2.o))
  clear HOX
  go_wp2_with fail
  refine HOC.o.mono ?_
  rintro e w3 ⟨rfl, hb3⟩
  have HV3 := hq (below_trans HV2.o hb3)
  clear HOC hb3 c0 c1 c2 c3
  by_cases ho : openM X = true
  case neg =>
    have hof : openM X = false := by simpa using ho
    have HV := hq (HZER.o w3 1 (HBW.o w3 HV3.o) (HR0.o (fun h => ho h.2.1)))
    obtain ⟨_, _, ⟨r0, r1, r2, r3⟩, f0, f1, f2, f3⟩ := HCL.o w3 HV3.o
    rw [hof]
    clear HOU HCX HCU HLD HOA HR0 HR1 HP HZER HW0 HW1 HW2 hpg ho hof
    go_wp2_with fail
    refine bodyPost_ret (v := .tuple #[zeroT.v, .int .i64 1]) ?_ rfl HV.o
    simp [results, Tryz.results31, go_sem, r0, r1, r2, r3, zeroT, Vt.v_mk']
  case pos =>
  rw [ho]
  obtain ⟨_, ⟨c0, c1, c2, c3⟩, _⟩ := HCL.o w3 HV3.o
  have HOC := hq (HOU.o w3 (HBW.o w3 HV3.o))
  clear HOU
  go_wp2_with fail
  refine HOC.o.mono ?_
  rintro e w4 ⟨rfl, hb4⟩
  have HV4 := hq (below_trans HV3.o hb4)
  clear HOC hb4 c0 c1 c2 c3 HV2 HV3
  by_cases hou : openM U = true
  case neg =>
    have hof : openM U = false := by simpa using hou
    have HV := hq (HZER.o w4 1 (HBW.o w4 HV4.o) (HR0.o (fun h => hou h.2.2)))
    obtain ⟨_, _, ⟨r0, r1, r2, r3⟩, f0, f1, f2, f3⟩ := HCL.o w4 HV4.o
    rw [hof]
    clear HCX HCU HLD HOA HR0 HR1 HP HZER HW0 HW1 HW2 hpg ho hof hou
    go_wp2_with fail
    refine bodyPost_ret (v := .tuple #[zeroT.v, .int .i64 1]) ?_ rfl HV.o
    simp [results, Tryz.results31, go_sem, r0, r1, r2, r3, zeroT, Vt.v_mk']
  case pos =>
  rw [hou]
  have HR2 := hq (HR1.o hpg ho hou)
  have HOX2 := hq ho
  have HOU2 := hq hou
  obtain ⟨⟨c0, c1, c2, c3⟩, _⟩ := HCL.o w4 HV4.o
  have HC := HCX.o ho w4 (HBW.o w4 HV4.o)
  have HCU2 := hq (HCU.o hou)
  clear HCX HCU HR0 HR1 hpg ho hou
  go_wp2_with fail
  refine HC.mono ?_
  rintro e w5 ⟨y, rfl, ⟨hyo, hyn⟩, hym, hb5⟩
  have HV5 := hq (below_trans HV4.o hb5)
  have HS4 := hq HV4.o.size
  have HYO := hq (hyo.base HS4.o)
  have HYN := hq hyn
  have HYM := hq hym
  have HYF := hq (show Fine y w5 from ⟨hyo.ok (by rw [hym]; exact HRNG.o.1), by rw [hym]; exact HLIM.o.1, by rw [hym]; have := (open_good HOX2.o).2.1; omega⟩)
  have HYT : Hq (ItemAt (w5.alloc (.cells #[.int .i64 y.k, .string (st y.t), y.ks.v, y.row] 37)) w5.heap.size 0 y) := hq (by
    obtain ⟨a, b, c, d⟩ := four_cells (Whole.made w5 37 #[.int .i64 y.k, .string (st y.t), y.ks.v, y.row])
    exact ⟨a, b, c, d⟩)
  have HYR := hq (show w5.heap.size ∉ y.rows from fun h => Nat.lt_irrefl _ ((hyo.lt.rowsS _ h).2.2))
  have HYS := hq (show ∀ g ∈ y.rows, g < w5.heap.size from fun g h => (hyo.lt.rowsS _ h).2.2)
  have HYB := hq (show ∀ g ∈ y.rows, V0.heap.size ≤ g from fun g h => Nat.le_trans HS4.o (hyo.lt.rowsS _ h).2.1)
  have HG5 := hq (show V0.heap.size ≤ w5.heap.size from Nat.le_trans HS4.o hb5.size)
  clear HC hb5 hyo hyn hym c0 c1 c2 c3 HV4 HS4
  have HLD2 := hq (HLD.o y)
  have HNF := hq (fun V (b p : Nat) => nodes_find V path y b p)
  have HPS := hq (fun (V : World) (n : Vt) (hn : n.Own 37 9 V0.heap.size (fun _ => True) V) => pset_own hn path w5.heap.size 0 y)
  have HPM := hq (fun n => psetT_m path y n)
  clear HLD
  obtain ⟨yk, yt, ⟨yko, ykc, ykl⟩, yo, yc, yis⟩ := y
  rw [Vt.v_mk'] at *
  simp only [Vt.k, Vt.t, Vt.ks, SRow.v, Vt.row, Vt.o, Vt.is, Vt.c] at HYT
  generalize (Vt.mk yk yt ⟨yko, ykc, ykl⟩ yo yc yis) = Y at *
  have HW5 := hq (Whole.made w5 37 #[.int .i64 yk, .string (st yt), .slice yko ykl.length ykc, .slice yo yis.length yc])
  have HAL := hq (below_alloc w5 (.cells #[.int .i64 yk, .string (st yt), .slice yko ykl.length ykc, .slice yo yis.length yc] 37))
  go_upto_region 4 with fail
  generalize hg5 : w5.heap.size = g5 at HYT HYR HYS HPS HW5 HG5 ⊢
  have HG5L := hq (show g5 < (w5.alloc (.cells #[.int .i64 yk, .string (st yt), .slice yko ykl.length ykc, .slice yo yis.length yc] 37)).heap.size from HW5.o.lt)
  clear hg5
  have HV6 := hq (below_trans HV5.o HAL.o)
  have HYO6 := hq (HYO.o.grow HAL.o)
  have HYF6 := hq (HYF.o.grow HAL.o)
  generalize (w5.alloc (.cells #[.int .i64 yk, .string (st yt), .slice yko ykl.length ykc, .slice yo yis.length yc] 37)) = V6 at *
  clear HYO HYF HAL HV5
  have HYOP : Hq (openM Y.m = true) := hq (by rw [HYM.o]; exact HOX2.o)
  have HC := HLD2.o V6 (HBW.o V6 HV6.o) g5 HYF6.o.ok HYT.o HYOP.o
  have hnd := HNF.o V6 g5 0 HYF6.o.ok HYOP.o HYF6.o.lim HYT.o
  clear HLD2 HNF
  go_wp2_with fail
  refine HC.mono ?_
  rintro e w7 ⟨rfl, hb7⟩
  have HV7 := hq (below_trans HV6.o hb7)
  have HB7 := hq hb7
  clear HC hb7
  rcases hnd with ⟨⟨zb, zp, z⟩, hl1, hl2, hgp, _, _, _, hzat⟩ | ⟨hl2, hgp⟩
  case inr =>
    have hld : decide ((nodesM path (g5, 0, Y)).length = path.length + 1) = false := decide_eq_false hl2
    rw [hld]
    obtain ⟨pv, hpv⟩ : ∃ pv, pv = lastP (.pointer (some ⟨g5, 0, none⟩)) (nodesM path (g5, 0, Y)) := ⟨_, rfl⟩
    rw [← hpv]
    have HV := hq (HZER.o w7 8 (HBW.o w7 HV7.o) (by rw [HR2.o, ← HYM.o, hgp]; rfl))
    obtain ⟨_, _, ⟨r0, r1, r2, r3⟩, f0, f1, f2, f3⟩ := HCL.o w7 HV7.o
    clear hl2 hld hgp HCU2 HOA HP HZER HW0 HW1 HW2 HPS HPM HYT HYO6 HYF6 HCL HBW hpv
    go_wp2_with fail
    refine bodyPost_ret (v := .tuple #[zeroT.v, .int .i64 8]) ?_ rfl HV.o
    simp [results, Tryz.results31, go_sem, r0, r1, r2, r3, zeroT, Vt.v_mk']
  case inl =>
  have hlp : lastP (.pointer (some ⟨g5, 0, none⟩)) (nodesM path (g5, 0, Y)) = .pointer (some ⟨zb, zp, none⟩) := by unfold lastP; rw [hl1]
  have hld : decide ((nodesM path (g5, 0, Y)).length = path.length + 1) = true := decide_eq_true hl2
  rw [hlp, hld]
  have HL1 := hq hl1
  have HL2 := hq hl2
  have HGP : Hq (FM = if openM (psetM path X U) = true then (psetM path X U, 0) else (zeroL, 1)) := hq (by rw [HR2.o, ← HYM.o, hgp]; rfl)
  have HZT := hq hzat
  simp only at HZT
  clear hl1 hl2 hgp hlp hld hzat HR2
  obtain ⟨_, ⟨c0, c1, c2, c3⟩, _⟩ := HCL.o w7 HV7.o
  have HC := HCU2.o w7 (HBW.o w7 HV7.o)
  clear HCU2
  go_wp2_with fail
  refine HC.mono ?_
  rintro e w8 ⟨n, rfl, ⟨hno, hnn⟩, hnm, hb8⟩
  have HV8 := hq (below_trans HV7.o hb8)
  have HNM := hq hnm
  have HS7 := hq HV7.o.size
  have hps := HPS.o w8 n (hno.base HS7.o) zb zp z #[.int .i64 yk, .string (st yt), .slice yko ykl.length ykc, .slice yo yis.length yc] (HYO6.o.grow (below_trans HB7.o hb8)) HYN.o HYR.o (HW5.o.grow (below_trans HB7.o hb8)) (Nat.le_refl _) (fun h => by
      have h1 := (hno.lt.rowsS _ h).2.1
      have h2 := HG5L.o
      have h3 := HB7.o.size
      omega) (fun g hg h => by
      have h1 := (hno.lt.rowsS _ h).2.1
      have h2 := HYS.o g hg
      have h3 := HB7.o.size
      have h4 := HG5L.o
      omega) (HYT.o.grow (below_trans HB7.o hb8)) HL1.o HL2.o
  obtain ⟨hp1, hp2, hp3, cz, hp4, hp5⟩ := hps
  have hzb : V0.heap.size ≤ zb := by
    rcases hp3 with ⟨_, h, _⟩ | ⟨_, h⟩
    · rw [h]; exact HG5.o
    · exact HYB.o zb h
  have hWz : Whole w8 zb 37 cz := hp4
  have f0 := hWz.free zp
  have f1 := hWz.free (zp + 1)
  have f2 := hWz.free (zp + 2)
  have f3 := hWz.free (zp + 3)
  obtain ⟨i0, i1, i2, i3⟩ := HZT.o.grow (below_trans HB7.o hb8)
  have HQO := hq hp1
  have HQT := hq hp2
  have HV9 := hq (below_p4 HV8.o hzb zp n)
  have HQM := hq (HPM.o n)
  generalize psetT path Y n = Q at *
  have HQR := hq (show Q.m.All Vl.Rng from by rw [HQM.o]; exact psetM_all (P := Vl.Rng) (fun _ _ _ _ _ h => ⟨h.hk, h.ht, h.hkt⟩) (by rw [HNM.o]; exact HRNG.o.2) path _ (by rw [HYM.o]; exact HRNG.o.1))
  have HQL := hq (show Q.m.All Lim from by rw [HQM.o]; exact psetM_all (P := Lim) (fun _ _ _ _ _ h => ⟨h.1, h.2⟩) (by rw [HNM.o]; exact HLIM.o.2) path _ (by rw [HYM.o]; exact HLIM.o.1))
  have HQS := hq (show Q.m.size ≤ 1000000 from by
    rw [HQM.o]
    have h1 := psetM_size n.m path Y.m
    have h2 := (open_good HYOP.o).2.1
    have h3 : n.m.size ≤ 4096 := by rw [HNM.o]; exact (open_good HOU2.o).2.1
    omega)
  have HQX : Hq (Q.m = psetM path X U) := hq (by rw [HQM.o, HYM.o, HNM.o])
  obtain ⟨nk, nt, ⟨nko, nkc, nkl⟩, no, nc, nis⟩ := n
  rw [Vt.v_mk']
  unfold p4 at HQO HQT HV9
  simp only [Vt.k, Vt.t, Vt.ks, SRow.v, Vt.row, Vt.o, Vt.is, Vt.c] at HQO HQT HV9
  clear HC hno hnn hnm hb8 hp1 hp2 hp3 hp4 hp5 hWz HPS HPM HYT HYO6 HYF6 HYN HYR HYS HYB HG5 HG5L HW5 HL1 HL2 HZT c0 c1 c2 c3 HV7 HB7 HV6 HV8 HNM HQM HRNG HLIM
  go_upto_region 8 with fail
  generalize (((w8.setCell ⟨zb, zp, none⟩ (.int .i64 nk)).setCell ⟨zb, zp + 1, none⟩ (.string (st nt))).setCell ⟨zb, zp + 2, none⟩ (.slice nko nkl.length nkc)).setCell ⟨zb, zp + 3, none⟩ (.slice no nis.length nc) = W9 at *
  clear f0 f1 f2 f3 i0 i1 i2 i3
  have HQF := hq (show Fine Q W9 from ⟨HQO.o.ok HQR.o, HQL.o, HQS.o⟩)
  have HC := HOA.o Q W9 (HBW.o W9 HV9.o) HQF.o
  rw [HQX.o] at HC
  obtain ⟨c0, c1, c2, c3⟩ := HQT.o
  have HQT2 := hq (fun V (hV : Below W9.heap.size W9 V) => HQT.o.grow hV)
  have HQO2 := hq (fun V (hV : Below W9.heap.size W9 V) => HQO.o.grow hV)
  clear HQT HQO HQR HQL HQS HQF HOA
  have HQV : Hq (∀ V (a b c d : Value), Below W9.heap.size W9 V → openM (psetM path X U) = true → PP (.returned (.tuple #[Q.v, .int .i64 0])) ((((V.setCell ⟨w.heap.size + 1 + 1, 0, none⟩ a).setCell ⟨w.heap.size + 1 + 1, 1, none⟩ b).setCell ⟨w.heap.size + 1 + 1, 2, none⟩ c).setCell ⟨w.heap.size + 1 + 1, 3, none⟩ d)) := hq (fun V a b c d hV hop => HP.o (psetM path X U, 0) Q _ (by rw [HGP.o, if_pos hop]) ((own_put4 (HQO2.o V hV) HG2.o a b c d).base (by have := HB0.o.size; exact this)) HQX.o (below_put4 (HBW.o V (below_trans HV9.o hV)) HGW.o a b c d))
  obtain ⟨qk, qt, ⟨qko, qkc, qkl⟩, qo, qc, qis⟩ := Q
  rw [Vt.v_mk'] at HC HQV
  simp only [Vt.k, Vt.t, Vt.ks, SRow.v, Vt.row, Vt.o, Vt.is, Vt.c] at c0 c1 c2 c3
  go_wp2_with fail
  refine HC.mono ?_
  rintro e w10 ⟨rfl, hb10⟩
  have HV10 := hq (below_trans HV9.o hb10)
  obtain ⟨d0, d1, d2, d3⟩ := HQT2.o w10 hb10
  simp only [Vt.k, Vt.t, Vt.ks, SRow.v, Vt.row, Vt.o, Vt.is, Vt.c] at d0 d1 d2 d3
  obtain ⟨_, _, ⟨r0, r1, r2, r3⟩, f0, f1, f2, f3⟩ := HCL.o w10 HV10.o
  clear HC c0 c1 c2 c3 HQT2 HQO2
  by_cases hop : openM (psetM path X U) = true
  case neg =>
    have hof : openM (psetM path X U) = false := by simpa using hop
    have HV := hq (HZER.o w10 1 (HBW.o w10 HV10.o) (by rw [HGP.o, if_neg hop]))
    rw [hof]
    clear HQV HZER HP HCL HBW HGP hop hof hb10 HQX
    go_wp2_with fail
    refine bodyPost_ret (v := .tuple #[zeroT.v, .int .i64 1]) ?_ rfl HV.o
    simp [results, Tryz.results31, go_sem, r0, r1, r2, r3, zeroT, Vt.v_mk']
  case pos =>
    have HV := hq (fun a b c d => HQV.o w10 a b c d hb10 hop)
    rw [hop]
    clear HQV HZER HP HCL HBW HGP hop hb10 HQX
    go_wp2_with fail
    refine bodyPost_ret (v := .tuple #[(Vt.mk qk qt ⟨qko, qkc, qkl⟩ qo qc qis).v, .int .i64 0]) ?_ rfl (HV.o _ _ _ _)
    simp [results, Tryz.results31, go_sem, r0, r1, r2, r3, Vt.v_mk']
end Go.Proofs.YtabfojdieegklaaGreatDoor
