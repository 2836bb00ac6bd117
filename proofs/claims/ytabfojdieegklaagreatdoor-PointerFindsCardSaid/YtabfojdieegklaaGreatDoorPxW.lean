/-
  WALK: the document's Set of paths.
-/
import Derived.Test.YtabfojdieegklaaGreatDoorPxR
namespace Go.Proofs.YtabfojdieegklaaGreatDoor
open Go.RowKit

set_option maxHeartbeats 16000000 in
set_option maxRecDepth 1000000 in
theorem rSet7_any (x u : Vt) (po : Option Addr) (pc : Nat) (path : List Bs) (w : World) (hx : Fine x w) (hu : Fine u w) (hwx : x.m.weight ≤ 1000000) (hwu : u.m.weight ≤ 1000000) (hp : (⟨po, pc, path⟩ : SRow).ok w) (hpt : Room path) :
    Calls Tryz.prog 32 #[x.v, .slice po path.length pc, u.v] w (SetPost (psetR x.m path u.m) w) := by
  have HOX := hq (fun V (hV : Below w.heap.size w V) => ropenV_any x V (hx.grow hV))
  have HOU := hq (fun V (hV : Below w.heap.size w V) => ropenV_any u V (hu.grow hV))
  have HRI := hq (fun V (hV : Below w.heap.size w V) => rright7_any ⟨po, pc, path⟩ V (hp.grow hV) hpt)
  have HFI := hq (fun V (hV : Below w.heap.size w V) => rFind7_any x po pc path V (hx.grow hV) hwx (hp.grow hV) hpt)
  have HST := hq (fun V (hV : Below w.heap.size w V) (h1 : openM x.m = true) (h2 : (pgetM path x.m).isSome = true) => rset7_any path x u po pc V (hx.ok.grow hV) (hu.ok.grow hV) hwx hwu (hp.grow hV) hpt h1 h2)
  have HOA := hq (fun (y : Vt) V (hy : Fine y V) => ropenV_any y V hy)
  have HRNG := hq (show (psetM path x.m u.m).All Vl.Rng from psetM_all (P := Vl.Rng) (fun _ _ _ _ _ h => ⟨h.hk, h.ht, h.hkt⟩) hu.ok.rng path _ hx.ok.rng)
  have HLIM := hq (show (psetM path x.m u.m).All Lim from psetM_all (P := Lim) (fun _ _ _ _ _ h => ⟨h.1, h.2⟩) hu.lim path _ hx.lim)
  have HSZ : Hq (openM x.m = true → openM u.m = true → (psetM path x.m u.m).size ≤ 1000000) := hq (fun h1 h2 => by
    have h3 := psetM_size u.m path x.m
    have h4 := (open_good h1).2.1
    have h5 := (open_good h2).2.1
    omega)
  have HR0 : Hq (¬ (pgoodB path = true ∧ openM x.m = true ∧ openM u.m = true) → psetR x.m path u.m = (zeroL, 1)) := hq (fun h => by unfold psetR; rw [if_neg h])
  have HR1 : Hq (pgoodB path = true → openM x.m = true → openM u.m = true → psetR x.m path u.m = if (pgetM path x.m).isSome = true then (if openM (psetM path x.m u.m) = true then (psetM path x.m u.m, 0) else (zeroL, 1)) else (zeroL, 8)) := hq (fun h1 h2 h3 => by unfold psetR; rw [if_pos ⟨h1, h2, h3⟩])
  have HF1 : Hq (pgoodB path = true → openM x.m = true → pfindM x.m path = pgetM path x.m) := hq (fun h1 h2 => by unfold pfindM; rw [if_pos ⟨h1, h2⟩])
  have HP : Hq (∀ (r : Vl × Int) (y : Vt) W', psetR x.m path u.m = r → y.Own 37 9 w.heap.size (fun _ => True) W' → y.m = r.1 → Below w.heap.size w W' → SetPost (psetR x.m path u.m) w (.returned (.tuple #[y.v, .int .i64 r.2])) W') := hq (fun r y W' h h1 h2 h3 => by rw [h]; exact ⟨y, rfl, h1, h2, h3⟩)
  generalize SetPost (psetR x.m path u.m) w = PP at *
  generalize psetR x.m path u.m = FM at *
  have hpl : path.length ≤ pc := hp.le
  have hpc : pc ≤ maxLen := hp.cp
  unfold maxLen at hpc
  clear hx hu hp hpt hwx hwu
  obtain ⟨k, t, ⟨ko, kc, kl⟩, o, c, is⟩ := x
  obtain ⟨k', t', ⟨ko', kc', kl'⟩, o', c', is'⟩ := u
  rw [Vt.v_mk'] at *
  rw [Vt.v_mk'] at *
  simp only [SRow.v] at HRI
  generalize (Vt.mk k t ⟨ko, kc, kl⟩ o c is).m = X at *
  generalize (Vt.mk k' t' ⟨ko', kc', kl'⟩ o' c' is').m = U at *
  obtain ⟨hb0, hw0, hw1, hw2⟩ := three_boxes w 37 #[.int .i64 k, .string (st t), .slice ko kl.length kc, .slice o is.length c] #[.int .i64 k', .string (st t'), .slice ko' kl'.length kc', .slice o' is'.length c'] #[.int .i64 0, .string ⟨#[]⟩, .slice none 0 0, .slice none 0 0]
  have HB0 := hq hb0
  have HW0 := hq hw0
  have HW1 := hq hw1
  have HW2 := hq hw2
  have HZER : Hq (∀ V e, Below w.heap.size w V → FM = (zeroL, e) → PP (.returned (.tuple #[zeroT.v, .int .i64 e])) ((((V.setCell ⟨w.heap.size + 1 + 1, 0, none⟩ (.int .i64 0)).setCell ⟨w.heap.size + 1 + 1, 1, none⟩ (.string ⟨#[]⟩)).setCell ⟨w.heap.size + 1 + 1, 2, none⟩ (.slice none 0 0)).setCell ⟨w.heap.size + 1 + 1, 3, none⟩ (.slice none 0 0))) := hq (fun V e h1 h2 => HP.o (zeroL, e) zeroT _ h2 (zeroT_own _ _) zeroT_m (below_put4 h1 (by omega) _ _ _ _))
  clear hb0 hw0 hw1 hw2
  go_enter Tryz.func32, Tryz.ntmps32
  go_upto_region 1 with fail
  generalize (((w.alloc (.cells #[.int .i64 k, .string (st t), .slice ko kl.length kc, .slice o is.length c] 37)).alloc (.cells #[.int .i64 k', .string (st t'), .slice ko' kl'.length kc', .slice o' is'.length c'] 37)).alloc (.cells #[.int .i64 0, .string ⟨#[]⟩, .slice none 0 0, .slice none 0 0] 37)) = V0 at *
  have HGW : Hq (w.heap.size ≤ w.heap.size + 1 + 1) := hq (by omega)
  have HG2 := hq HW2.o.lt
  have HCL := hq (fun V (hV : Below V0.heap.size V0 V) => And.intro (four_cells (HW0.o.grow hV)) (And.intro (four_cells (HW1.o.grow hV)) (And.intro (four_cells (HW2.o.grow hV)) (four_freeP (HW2.o.grow hV)))))
  have HBW := hq (fun V (hV : Below V0.heap.size V0 V) => below_trans HB0.o hV)
  obtain ⟨c0, c1, c2, c3⟩ := four_cells HW0.o
  have HC := HOX.o V0 HB0.o
  clear HOX HW0 HW1 HW2
  go_wp2_with fail
  refine HC.mono ?_
  rintro e w1 ⟨rfl, hb1⟩
  have HV1 := hq hb1
  clear HC hb1 c0 c1 c2 c3
  obtain ⟨_, ⟨c0, c1, c2, c3⟩, _⟩ := HCL.o w1 HV1.o
  have HC := HOU.o w1 (HBW.o w1 HV1.o)
  clear HOU
  go_wp2_with fail
  refine HC.mono ?_
  rintro e w2 ⟨rfl, hb2⟩
  have HV2 := hq (below_trans HV1.o hb2)
  clear HC hb2 c0 c1 c2 c3 HV1
  have HC := HRI.o w2 (HBW.o w2 HV2.o)
  unfold BoolPost at HC
  clear HRI
  go_wp2_with fail
  refine HC.mono ?_
  rintro e w3 ⟨rfl, hb3⟩
  have HV3 := hq (below_trans HV2.o hb3)
  clear HC hb3 HV2
  by_cases hall : pgoodB path = true ∧ openM X = true ∧ openM U = true
  case neg =>
    have HV := hq (HZER.o w3 1 (HBW.o w3 HV3.o) (HR0.o hall))
    obtain ⟨_, _, ⟨r0, r1, r2, r3⟩, f0, f1, f2, f3⟩ := HCL.o w3 HV3.o
    have hcs : openM X = false ∨ (openM X = true ∧ openM U = false) ∨ (openM X = true ∧ openM U = true ∧ pgoodB path = false) := by
      cases h1 : openM X <;> cases h2 : openM U <;> cases h3 : pgoodB path <;> simp
      exact hall ⟨h3, h1, h2⟩
    clear HFI HST HOA HR0 HR1 HF1 HP HZER hall HRNG HLIM HSZ
    rcases hcs with h1 | ⟨h1, h2⟩ | ⟨h1, h2, h3⟩
    · rw [h1]
      clear h1
      go_wp2_with fail
      refine bodyPost_ret (v := .tuple #[zeroT.v, .int .i64 1]) ?_ rfl HV.o
      simp [results, Tryz.results32, go_sem, r0, r1, r2, r3, zeroT, Vt.v_mk']
    · rw [h1, h2]
      clear h1 h2
      go_wp2_with fail
      refine bodyPost_ret (v := .tuple #[zeroT.v, .int .i64 1]) ?_ rfl HV.o
      simp [results, Tryz.results32, go_sem, r0, r1, r2, r3, zeroT, Vt.v_mk']
    · rw [h1, h2, h3]
      clear h1 h2 h3
      go_wp2_with fail
      refine bodyPost_ret (v := .tuple #[zeroT.v, .int .i64 1]) ?_ rfl HV.o
      simp [results, Tryz.results32, go_sem, r0, r1, r2, r3, zeroT, Vt.v_mk']
  case pos =>
  obtain ⟨h1, h2, h3⟩ := hall
  have HR2 := hq (HR1.o h1 h2 h3)
  have HS2 := hq (HSZ.o h2 h3)
  have HF2 := hq (HF1.o h1 h2)
  have HST2 := hq (fun V hV => HST.o V hV h2)
  rw [h1, h2, h3]
  clear HR0 HR1 HSZ HF1 HST h1 h2 h3
  obtain ⟨⟨c0, c1, c2, c3⟩, _⟩ := HCL.o w3 HV3.o
  have HC := HFI.o w3 (HBW.o w3 HV3.o)
  rw [HF2.o] at HC
  clear HFI HF2
  go_wp2_with fail
  refine HC.mono ?_
  rintro e w4 ⟨y, rfl, _, _, hb4⟩
  have HV4 := hq (below_trans HV3.o hb4)
  obtain ⟨yk, yt, ⟨yko, ykc, ykl⟩, yo, yc, yis⟩ := y
  rw [Vt.v_mk']
  have HAL := hq (below_alloc w4 (.cells #[.int .i64 yk, .string (st yt), .slice yko ykl.length ykc, .slice yo yis.length yc] 37))
  clear HC hb4 HV3 c0 c1 c2 c3
  go_upto_region 7 with fail
  have HV5 := hq (below_trans HV4.o HAL.o)
  clear HAL HV4
  generalize w4.heap.size = g4
  generalize (w4.alloc (.cells #[.int .i64 yk, .string (st yt), .slice yko ykl.length ykc, .slice yo yis.length yc] 37)) = V5 at *
  cases hgs : (pgetM path X).isSome with
  | false =>
    have HV := hq (HZER.o V5 8 (HBW.o V5 HV5.o) (by rw [HR2.o, hgs]; rfl))
    obtain ⟨_, _, ⟨r0, r1, r2, r3⟩, f0, f1, f2, f3⟩ := HCL.o V5 HV5.o
    clear HST2 HOA HP HZER HR2 HS2 HRNG HLIM hgs
    go_wp2_with fail
    refine bodyPost_ret (v := .tuple #[zeroT.v, .int .i64 8]) ?_ rfl HV.o
    simp [results, Tryz.results32, go_sem, r0, r1, r2, r3, zeroT, Vt.v_mk']
  | true =>
  have HR3 : Hq (FM = if openM (psetM path X U) = true then (psetM path X U, 0) else (zeroL, 1)) := hq (by rw [HR2.o, hgs]; rfl)
  obtain ⟨⟨c0, c1, c2, c3⟩, ⟨d0, d1, d2, d3⟩, _⟩ := HCL.o V5 HV5.o
  have HC := HST2.o V5 (HBW.o V5 HV5.o) hgs
  clear HST2 HR2 hgs
  go_wp2_with fail
  refine HC.mono ?_
  rintro e w6 ⟨Q, rfl, hqo, hqm, hb6⟩
  have HV6 := hq (below_trans HV5.o hb6)
  have HQO := hq (hqo.base HV5.o.size)
  have HQM := hq hqm
  have HQF := hq (show Fine Q w6 from ⟨hqo.ok (by rw [hqm]; exact HRNG.o), by rw [hqm]; exact HLIM.o, by rw [hqm]; exact HS2.o⟩)
  have HAL := hq (fun cs => below_alloc w6 (.cells cs 37))
  have HCO := hq (fun V (hV : Below w6.heap.size w6 V) => HOA.o Q V (HQF.o.grow hV))
  rw [hqm] at HCO
  clear HC hqo hqm hb6 HV5 c0 c1 c2 c3 d0 d1 d2 d3 HRNG HLIM HS2 HOA HQF
  have HQV : Hq (∀ V (a b c d : Value), Below w6.heap.size w6 V → openM (psetM path X U) = true → PP (.returned (.tuple #[Q.v, .int .i64 0])) ((((V.setCell ⟨w.heap.size + 1 + 1, 0, none⟩ a).setCell ⟨w.heap.size + 1 + 1, 1, none⟩ b).setCell ⟨w.heap.size + 1 + 1, 2, none⟩ c).setCell ⟨w.heap.size + 1 + 1, 3, none⟩ d)) := hq (fun V a b c d hV hop => HP.o (psetM path X U, 0) Q _ (by rw [HR3.o, if_pos hop]) ((own_put4 (HQO.o.grow hV) HG2.o a b c d).base (by have := HB0.o.size; exact this)) HQM.o (below_put4 (HBW.o V (below_trans HV6.o hV)) HGW.o a b c d))
  obtain ⟨qk, qt, ⟨qko, qkc, qkl⟩, qo, qc, qis⟩ := Q
  rw [Vt.v_mk'] at *
  have HWQ := hq (Whole.made w6 37 #[.int .i64 qk, .string (st qt), .slice qko qkl.length qkc, .slice qo qis.length qc])
  have HAL2 := hq (HAL.o #[.int .i64 qk, .string (st qt), .slice qko qkl.length qkc, .slice qo qis.length qc])
  clear HAL HQO HQM
  go_upto_region 10 with fail
  generalize hg6 : w6.heap.size = g6 at HWQ ⊢
  clear hg6
  generalize (w6.alloc (.cells #[.int .i64 qk, .string (st qt), .slice qko qkl.length qkc, .slice qo qis.length qc] 37)) = V7 at *
  obtain ⟨c0, c1, c2, c3⟩ := four_cells HWQ.o
  have HC := HCO.o V7 HAL2.o
  clear HCO
  go_wp2_with fail
  refine HC.mono ?_
  rintro e w8 ⟨rfl, hb8⟩
  have HA8 := hq (below_trans HAL2.o hb8)
  have HV8 := hq (below_trans HV6.o HA8.o)
  obtain ⟨d0, d1, d2, d3⟩ := four_cells (HWQ.o.grow hb8)
  obtain ⟨_, _, ⟨r0, r1, r2, r3⟩, f0, f1, f2, f3⟩ := HCL.o w8 HV8.o
  clear HC hb8 c0 c1 c2 c3 HAL2 HWQ
  by_cases hop : openM (psetM path X U) = true
  case neg =>
    have hof : openM (psetM path X U) = false := by simpa using hop
    have HV := hq (HZER.o w8 1 (HBW.o w8 HV8.o) (by rw [HR3.o, if_neg hop]))
    rw [hof]
    clear HQV HZER HP HCL HBW HR3 hop hof
    go_wp2_with fail
    refine bodyPost_ret (v := .tuple #[zeroT.v, .int .i64 1]) ?_ rfl HV.o
    simp [results, Tryz.results32, go_sem, r0, r1, r2, r3, zeroT, Vt.v_mk']
  case pos =>
    have HV := hq (fun a b c d => HQV.o w8 a b c d HA8.o hop)
    rw [hop]
    clear HQV HZER HP HCL HBW HR3 hop
    go_wp2_with fail
    refine bodyPost_ret (v := .tuple #[(Vt.mk qk qt ⟨qko, qkc, qkl⟩ qo qc qis).v, .int .i64 0]) ?_ rfl (HV.o _ _ _ _)
    simp [results, Tryz.results32, go_sem, r0, r1, r2, r3, Vt.v_mk']
end Go.Proofs.YtabfojdieegklaaGreatDoor
