/-
  WALK: value.compare.
-/
import Derived.Test.YtfibmmmbpfnccaaGreatDoorVtU
namespace Go.Proofs.YtfibmmmbpfnccaaGreatDoor
open Go.RowKit

theorem cmpS_kind {v w : Vl} (h : v.k ≠ w.k) : cmpS v w = Lib.compareInt v.k w.k := by
  unfold cmpS Lib.compareInt
  by_cases h1 : v.k < w.k
  · rw [cmpV_lt (by rw [sortV_k, sortV_k]; exact h1), if_pos h1]
  · rw [cmpV_gt (by rw [sortV_k, sortV_k]; omega), if_neg h1, if_pos (by omega)]
theorem cmpS_body {v w : Vl} (h : v.k = w.k) : cmpS v w = bodyV v.k (sortV v) (sortV w) := by
  unfold cmpS
  rw [cmpV_same (by rw [sortV_k, sortV_k]; exact h), sortV_k]
theorem cmpS_num {v w : Vl} (h : v.k = w.k) (h3 : v.k = 3) : cmpS v w = compareM (numT v.t) (numT w.t) := by
  rw [cmpS_body h]
  unfold bodyV
  rw [if_pos h3, sortV_t, sortV_t]
theorem cmpS_txt {v w : Vl} (h : v.k = w.k) (h3 : v.k ≠ 3) (h5 : v.k ≠ 5) (h6 : v.k ≠ 6) : cmpS v w = cmpB v.t w.t := by
  rw [cmpS_body h]
  unfold bodyV
  rw [if_neg h3, if_neg h5, if_neg h6, sortV_t, sortV_t]
theorem cmpS_arr {t t' : Bs} {ks ks' : List Bs} {is is' : List Vl} : cmpS (.mk 5 t ks is) (.mk 5 t' ks' is') = lexM cmpS is is' := by
  rw [cmpS_body (by rfl)]
  rw [sortV_else (by decide), sortV_else (by decide)]
  show bodyV 5 _ _ = _
  unfold bodyV
  rw [if_neg (by decide), if_pos rfl]
  simp only [Vl.is]
  rw [lexM_map]
  rfl
set_option maxHeartbeats 16000000 in
set_option maxRecDepth 1000000 in
theorem vcompare_any : ∀ (x y : Vt) (w : World), Env w → x.Ok w → y.Ok w → Good x.m → Good y.m → x.m.All Lim → y.m.All Lim → x.m.size ≤ 1000000 → y.m.size ≤ 1000000 → Calls Tryz.prog 79 #[x.v, y.v] w (IPost (cmpS x.m y.m) w) := Vt.ind (fun k t ks o c is ih y w hE hx hy hgx hgy hlx hly hsx hsy => by
  have hix : ∀ p ∈ is, p.m.size ≤ 1000000 := fun p hp => by
    rw [Vt.m_mk] at hsx
    simp only [Vl.size] at hsx
    have := Vl.sizes_le p.m (List.mem_map.2 ⟨p, hp, rfl⟩)
    omega
  have hiy : ∀ q ∈ y.is, q.m.size ≤ 1000000 := fun q hq' => by
    cases y
    rw [Vt.m_mk] at hsy
    simp only [Vl.size] at hsy
    have := Vl.sizes_le q.m (List.mem_map.2 ⟨q, hq', rfl⟩)
    simp only [Vt.is] at this
    omega
  have HOB := hq (fun (h6 : k = 6) (h6' : y.k = 6) V (hV : Below w.heap.size w V) => objects_any (Vt.mk k t ks o c is) y V (hx.grow hV) (hy.grow hV) h6 h6' hgx hgy (fun p hp q hq' W hW => ih p hp q W (hE.grow (below_trans hV hW)) ((hx.mem p hp).grow (below_trans hV hW)) (by cases y; exact (hy.mem q hq').grow (below_trans hV hW)) (by rw [Vt.m_mk] at hgx; exact hgx.items _ (List.mem_map.2 ⟨p, hp, rfl⟩)) (by cases y; rw [Vt.m_mk] at hgy; exact hgy.items _ (List.mem_map.2 ⟨q, hq', rfl⟩)) (by rw [Vt.m_mk] at hlx; exact hlx.items _ (List.mem_map.2 ⟨p, hp, rfl⟩)) (by cases y; rw [Vt.m_mk] at hly; exact hly.items _ (List.mem_map.2 ⟨q, hq', rfl⟩)) (hix p hp) (hiy q hq')))
  obtain ⟨ko, kc, kl⟩ := ks
  obtain ⟨k', t', ⟨ko', kc', kl'⟩, o', c', is'⟩ := y
  have HIH := hq (fun (p : Vt) (hp : p ∈ is) (q : Vt) (hq' : q ∈ is') V (hV : Below w.heap.size w V) => ih p hp q V (hE.grow hV) ((hx.mem p hp).grow hV) ((hy.mem q hq').grow hV) (by rw [Vt.m_mk] at hgx; exact hgx.items _ (List.mem_map.2 ⟨p, hp, rfl⟩)) (by rw [Vt.m_mk] at hgy; exact hgy.items _ (List.mem_map.2 ⟨q, hq', rfl⟩)) (by rw [Vt.m_mk] at hlx; exact hlx.items _ (List.mem_map.2 ⟨p, hp, rfl⟩)) (by rw [Vt.m_mk] at hly; exact hly.items _ (List.mem_map.2 ⟨q, hq', rfl⟩)) (hix p hp) (hiy q hq'))
  rw [Vt.m_mk] at *
  rw [Vt.m_mk] at *
  simp only [Vt.k] at *
  have htl : t.length ≤ 1048576 := hlx.here.1
  have htl' : t'.length ≤ 1048576 := hly.here.1
  have HLN : Hq (k = 5 → is.length ≤ 1000000 ∧ is'.length ≤ 1000000) := hq (fun _ => by
    simp only [Vl.size] at hsx hsy
    have h1 := Vl.sizes_length (is.map Vt.m)
    have h2 := Vl.sizes_length (is'.map Vt.m)
    rw [List.length_map] at h1 h2
    omega)
  have hn5 : k = 5 ∨ k = 6 ∨ (k ≠ 5 ∧ k ≠ 6) := by omega
  have hcl := hx.hl
  have hcc := hx.hc
  have hcl' := hy.hl
  have hcc' := hy.hc
  have HKD : Hq (k ≠ k' → cmpS (.mk k t kl (is.map Vt.m)) (.mk k' t' kl' (is'.map Vt.m)) = Lib.compareInt k k') := hq (fun h => cmpS_kind (v := .mk k t kl (is.map Vt.m)) (w := .mk k' t' kl' (is'.map Vt.m)) h)
  have HNM : Hq (k = k' → k = 3 → cmpS (.mk k t kl (is.map Vt.m)) (.mk k' t' kl' (is'.map Vt.m)) = compareM (numT t) (numT t')) := hq (fun h h3 => cmpS_num (v := .mk k t kl (is.map Vt.m)) (w := .mk k' t' kl' (is'.map Vt.m)) h h3)
  have HTX : Hq (k = k' → k ≠ 3 → k ≠ 5 → k ≠ 6 → cmpS (.mk k t kl (is.map Vt.m)) (.mk k' t' kl' (is'.map Vt.m)) = cmpB t t') := hq (fun h h3 h5 h6 => cmpS_txt (v := .mk k t kl (is.map Vt.m)) (w := .mk k' t' kl' (is'.map Vt.m)) h h3 h5 h6)
  have HAR : Hq (k = k' → k = 5 → cmpS (.mk k t kl (is.map Vt.m)) (.mk k' t' kl' (is'.map Vt.m)) = lexM (fun p q => cmpS p.m q.m) is is') := hq (fun h h5 => by
    subst h h5
    rw [cmpS_arr, lexM_map])
  have HP : Hq (∀ (m : Int) W', m = cmpS (.mk k t kl (is.map Vt.m)) (.mk k' t' kl' (is'.map Vt.m)) → Below w.heap.size w W' → IPost (cmpS (.mk k t kl (is.map Vt.m)) (.mk k' t' kl' (is'.map Vt.m))) w (.returned (.int .i64 m)) W') := hq (fun m W' h h2 => ⟨by rw [h], h2⟩)
  generalize cmpS (.mk k t kl (is.map Vt.m)) (.mk k' t' kl' (is'.map Vt.m)) = CM at *
  generalize IPost CM w = PP at *
  rw [Vt.v_mk'] at *
  rw [Vt.v_mk'] at *
  obtain ⟨hb0, hw0, hw1⟩ := two_boxes w 25 #[.int .i64 k, .string (st t), .slice ko kl.length kc, .slice o is.length c] #[.int .i64 k', .string (st t'), .slice ko' kl'.length kc', .slice o' is'.length c']
  have HX := hq hx
  have HY := hq hy
  have HE := hq hE
  have HB0 := hq hb0
  have HW0 := hq hw0
  have HW1 := hq hw1
  clear hx hy hgx hgy hlx hly ih hE hb0 hw0 hw1 hsx hsy hix hiy
  go_enter Tryz.func79, Tryz.ntmps79
  go_upto_region 1 with fail
  generalize w.heap.size = g at HW0 HW1
  generalize ((w.alloc (.cells #[.int .i64 k, .string (st t), .slice ko kl.length kc, .slice o is.length c] 25)).alloc (.cells #[.int .i64 k', .string (st t'), .slice ko' kl'.length kc', .slice o' is'.length c'] 25)) = V0 at *
  have hVg := hq (fun wr (hb : Below V0.heap.size V0 wr) => four_cells (HW0.o.grow hb))
  have hVh := hq (fun wr (hb : Below V0.heap.size V0 wr) => four_cells (HW1.o.grow hb))
  obtain ⟨c0, c1, c2, c3⟩ := hVg.o V0 (Below.refl _ _)
  obtain ⟨d0, d1, d2, d3⟩ := hVh.o V0 (Below.refl _ _)
  by_cases hk : k = k'
  case neg =>
    have hz : (k != k') = true := bne_iff_ne.2 hk
    have HV := hq (HP.o (Lib.compareInt k k') V0 (HKD.o hk).symm HB0.o)
    have HCI := hq (fun V => Tryz.cmp_Compare_int k k' V)
    clear HP HKD HNM HTX HAR HIH HOB hk hn5 HX HY HE HLN
    generalize Lib.compareInt k k' = cc at *
    go_wp2_with fail
    refine (HCI.o _).mono ?_
    rintro e w2 ⟨rfl, h2⟩
    obtain rfl := h2.symm
    go_wp2_with fail
    exact HV.o
  have hz : (k != k') = false := by rw [bne, beq_iff_eq.2 hk]; rfl
  have HKK := hq hk
  clear HKD hk
  by_cases h3 : k = 3
  · have e3 : (k == 3) = true := beq_iff_eq.2 h3
    have HM := hq (HNM.o HKK.o h3)
    have HD1 := hq (fun V (hV : Below V0.heap.size V0 V) => decimal_any t V (HE.o.grow (below_trans HB0.o hV)).its htl)
    have HD2 := hq (fun V (hV : Below V0.heap.size V0 V) => decimal_any t' V (HE.o.grow (below_trans HB0.o hV)).its htl')
    obtain ⟨n1, n2, n3⟩ := numT_bd t
    obtain ⟨m1, m2, m3⟩ := numT_bd t'
    unfold DecP at HD1 HD2
    clear HNM HTX HAR HIH HOB hn5 HX HY HE HKK h3 HLN
    generalize numT t = q1 at *
    generalize numT t' = q2 at *
    obtain ⟨na, DA, EA⟩ := q1
    obtain ⟨nb, DB, EB⟩ := q2
    simp only [Dec.val] at *
    have HNC := hq (fun W => compare_any na DA EA nb DB EB W (by omega) (by omega) (by omega) (by omega))
    generalize compareM ⟨na, DA, EA⟩ ⟨nb, DB, EB⟩ = cc at *
    generalize decM t = b1 at *
    generalize decM t' = b2 at *
    go_wp2_with fail
    refine (HD1.o V0 (Below.refl _ _)).mono ?_
    rintro e w2 ⟨rfl, hb2⟩
    have hb3 := below_trans hb2 (below_alloc w2 (.cells #[.bool na, .string (st DA), .int .i64 EA] 71))
    have HWn := hq (Whole.made w2 71 #[.bool na, .string (st DA), .int .i64 EA])
    have HB3 := hq hb3
    clear hb2 hb3 HD1 c0 c1 c2 c3 d0 d1 d2 d3
    go_upto_region 6 with fail
    generalize w2.heap.size = gn at *
    generalize (w2.alloc (.cells #[.bool na, .string (st DA), .int .i64 EA] 71)) = W3 at *
    obtain ⟨d0, d1, d2, d3⟩ := hVh.o W3 HB3.o
    go_wp2_with fail
    refine (HD2.o W3 HB3.o).mono ?_
    rintro e w4 ⟨rfl, hb4⟩
    have hb5 := below_trans hb4 (below_alloc w4 (.cells #[.bool nb, .string (st DB), .int .i64 EB] 71))
    have HWm := hq (Whole.made w4 71 #[.bool nb, .string (st DB), .int .i64 EB])
    have HB5 := hq (below_trans HB3.o hb5)
    obtain ⟨p0, p1, p2⟩ := three_cells (HWn.o.grow hb5)
    clear hb4 hb5 HD2 d0 d1 d2 d3 HWn
    go_upto_region 7 with fail
    generalize w4.heap.size = gm at *
    generalize (w4.alloc (.cells #[.bool nb, .string (st DB), .int .i64 EB] 71)) = W5 at *
    obtain ⟨r0, r1, r2⟩ := three_cells HWm.o
    go_wp2_with fail
    refine (HNC.o W5).mono ?_
    rintro e w6 ⟨rfl, hb6⟩
    have HV := hq (HP.o cc w6 HM.o.symm (below_trans HB0.o (below_trans HB5.o hb6)))
    clear hb6 HP HM HNC HB5 HB3 HB0
    go_wp2_with fail
    exact HV.o
  have e3 : (k == 3) = false := beq_eq_false_iff_ne.2 h3
  by_cases h5 : k = 5
  · have e5 : (k == 5) = true := beq_iff_eq.2 h5
    have HM := hq (HAR.o HKK.o h5)
    have HRW := hq (rowsV_any (w0 := V0) (fun p q => cmpS p.m q.m) enter_compare (caps := #[]) o o' c c' is is' (HLN.o h5).1 (HLN.o h5).2 ((HX.o.grow HB0.o).at_) ((HY.o.grow HB0.o).at_) (fun p hp q hq' W hW => by
      have h := HIH.o p hp q hq' W (below_trans HB0.o hW)
      simpa using h) V0 (Below.refl _ _))
    clear HNM HTX HAR HIH HOB hn5 HX HY HE HKK h5 h3 HLN
    generalize lexM (fun p q : Vt => cmpS p.m q.m) is is' = cc at *
    go_wp2_with fail
    refine HRW.o.mono ?_
    rintro e w2 ⟨rfl, hb2⟩
    have HV := hq (HP.o cc w2 HM.o.symm (below_trans HB0.o hb2))
    clear hb2 HP HM HRW
    go_wp2_with fail
    exact HV.o
  have e5 : (k == 5) = false := beq_eq_false_iff_ne.2 h5
  by_cases h6 : k = 6
  · have e6 : (k == 6) = true := beq_iff_eq.2 h6
    have HOC := hq (HOB.o h6 (by rw [← HKK.o]; exact h6) V0 HB0.o)
    clear HNM HTX HAR HIH HOB hn5 HX HY HE HKK h5 h3 h6 HLN
    go_wp2_with fail
    refine HOC.o.mono ?_
    rintro e w2 ⟨rfl, hb2⟩
    have HV := hq (HP.o CM w2 rfl (below_trans HB0.o hb2))
    clear hb2 HP HOC
    go_wp2_with fail
    exact HV.o
  have e6 : (k == 6) = false := beq_eq_false_iff_ne.2 h6
  have HM := hq (HTX.o HKK.o h3 h5 h6)
  have HCM := hq (fun W => Tryz.strings_Compare (st t) (st t') W)
  rw [st_list, st_list] at HCM
  clear HNM HTX HAR HIH HOB hn5 HX HY HE HKK h5 h3 h6 HLN
  have HCM2 : Hq (∀ W, Calls Tryz.prog 93 #[.string (st t), .string (st t')] W fun e w' => e = .returned (.int .i64 (cmpB t t')) ∧ w' = W) := hq (fun W => HCM.o W)
  generalize cmpB t t' = cc at *
  clear HCM
  go_wp2_with fail
  refine (HCM2.o _).mono ?_
  rintro e w2 ⟨rfl, h2⟩
  obtain rfl := h2.symm
  have HV := hq (HP.o cc V0 HM.o.symm HB0.o)
  clear HP HM HCM2
  go_wp2_with fail
  exact HV.o)
end Go.Proofs.YtfibmmmbpfnccaaGreatDoor
