/-
  WALK: value.objects.
  WALK: value.compare.
  WALKS: value.Compare, Same.
  WALKS: value.Sorted, Copy: remake in two orders.
  WALKS: value.Sorted, Copy, Get, Of, Num.
  WALKS: value.Of, Num; the law's Row, Map.
  WALK: value.Get.
-/
import Derived.Test.YtnlkokgekjlmmaaGreatDoorVtNT

namespace Go.Proofs.YtnlkokgekjlmmaaGreatDoor
open Go.RowKit

theorem nats_len (ks : List Bs) (n : Nat) (h : n ≤ 1000000) : (ordN ks n).length ≤ 1000000 := by rw [ordN_len]; exact h
theorem ordN_lt {ks : List Bs} {n : Nat} : ∀ i ∈ ordN ks n, i < n := fun i hi => by
  unfold ordN at hi
  obtain ⟨j, _, rfl⟩ := List.mem_map.1 hi
  exact j.isLt
set_option maxHeartbeats 8000000 in
set_option maxRecDepth 1000000 in
theorem objects_any (x y : Vt) (w : World) (hx : x.Ok w) (hy : y.Ok w) (hxk : x.k = 6) (hyk : y.k = 6) (hgx : Good x.m) (hgy : Good y.m)
    (hih : ∀ p ∈ x.is, ∀ q ∈ y.is, ∀ W, Below w.heap.size w W → Calls Tryz.prog 58 #[p.v, q.v] W (IPost (cmpS p.m q.m) W)) :
    Calls Tryz.prog 109 #[x.v, y.v] w (IPost (cmpS x.m y.m) w) := by
  obtain ⟨k, t, ⟨ko, kc, kl⟩, o, c, is⟩ := x
  obtain ⟨k', t', ⟨ko', kc', kl'⟩, o', c', is'⟩ := y
  simp only [Vt.k, Vt.is] at hxk hyk hih
  subst hxk hyk
  rw [Vt.m_mk] at hgx hgy
  simp only at hgx hgy
  rw [Vt.m_mk, Vt.m_mk]
  obtain ⟨hl6, hl4, hnd⟩ := hgx.obj rfl
  obtain ⟨hl6', hl4', hnd'⟩ := hgy.obj rfl
  rw [List.length_map] at hl6 hl6'
  have hil : is.length ≤ 4096 := by omega
  have hil' : is'.length ≤ 4096 := by omega
  have HL6 := hq hl6
  have HL6' := hq hl6'
  clear hl6 hl6'
  have HMM : Hq (cmpS (.mk 6 t kl (is.map Vt.m)) (.mk 6 t' kl' (is'.map Vt.m)) = thenM (lexM (fun i j => cmpB (keyAt kl i) (keyAt kl' j)) (ordN kl is.length) (ordN kl' is'.length)) (lexM (fun i j => cmpS (is.map Vt.m |>.getD i default) (is'.map Vt.m |>.getD j default)) (ordN kl is.length) (ordN kl' is'.length))) := hq (by
    have h := cmpS_obj hgx hgy
    simp only [List.length_map] at h
    exact h)
  have HP : Hq (∀ (m : Int) W', m = cmpS (.mk 6 t kl (is.map Vt.m)) (.mk 6 t' kl' (is'.map Vt.m)) → Below w.heap.size w W' → IPost (cmpS (.mk 6 t kl (is.map Vt.m)) (.mk 6 t' kl' (is'.map Vt.m))) w (.returned (.int .i64 m)) W') := hq (fun m W' h h2 => ⟨by rw [h], h2⟩)
  have hcl := hx.hl
  have hcc := hx.hc
  have hcl' := hy.hl
  have hcc' := hy.hc
  have hkl : kl.length ≤ kc := hx.hks.le
  have hkc : kc ≤ maxLen := hx.hks.cp
  have hkl' : kl'.length ≤ kc' := hy.hks.le
  have hkc' : kc' ≤ maxLen := hy.hks.cp
  obtain ⟨hb0, hw0, hw1⟩ := two_boxes w 25 #[.int .i64 6, .string (st t), .slice ko kl.length kc, .slice o is.length c] #[.int .i64 6, .string (st t'), .slice ko' kl'.length kc', .slice o' is'.length c']
  have HBA := hq (fun V (h : Below w.heap.size w V) => bykey_any (Vt.mk 6 t ⟨ko, kc, kl⟩ o c is) V (hx.grow h) (by simp only [Vt.is]; omega) (fun _ => ⟨HL6.o, hnd⟩))
  have HBB := hq (fun V (h : Below w.heap.size w V) => bykey_any (Vt.mk 6 t' ⟨ko', kc', kl'⟩ o' c' is') V (hy.grow h) (by simp only [Vt.is]; omega) (fun _ => ⟨HL6'.o, hnd'⟩))
  have eA : ordK (Vt.mk 6 t ⟨ko, kc, kl⟩ o c is).m = ordN kl is.length := by
    rw [Vt.m_mk]
    have : (is.map Vt.m).length = is.length := List.length_map ..
    show (if (6 : Int) = 6 then ordN kl (is.map Vt.m).length else _) = _
    rw [if_pos rfl, this]
  have eB : ordK (Vt.mk 6 t' ⟨ko', kc', kl'⟩ o' c' is').m = ordN kl' is'.length := by
    rw [Vt.m_mk]
    have : (is'.map Vt.m).length = is'.length := List.length_map ..
    show (if (6 : Int) = 6 then ordN kl' (is'.map Vt.m).length else _) = _
    rw [if_pos rfl, this]
  rw [eA] at HBA
  rw [eB] at HBB
  rw [Vt.v_mk'] at *
  rw [Vt.v_mk'] at *
  have HX := hq hx
  have HY := hq hy
  have HIH := hq hih
  generalize IPost (cmpS (.mk 6 t kl (is.map Vt.m)) (.mk 6 t' kl' (is'.map Vt.m))) w = PP at *
  generalize cmpS (.mk 6 t kl (is.map Vt.m)) (.mk 6 t' kl' (is'.map Vt.m)) = CM at *
  have HLA := hq (ordN_len kl is.length)
  have HLB := hq (ordN_len kl' is'.length)
  have HTA := hq (@ordN_lt kl is.length)
  have HTB := hq (@ordN_lt kl' is'.length)
  generalize ordN kl is.length = oa at *
  generalize ordN kl' is'.length = ob at *
  have HB0 := hq hb0
  have HW0 := hq hw0
  have HW1 := hq hw1
  clear hx hy hgx hgy hih hb0 hw0 hw1 eA eB hnd hnd'
  go_enter Tryz.func109, Tryz.ntmps109
  go_upto_region 1 with fail
  generalize ((w.alloc (.cells #[.int .i64 6, .string (st t), .slice ko kl.length kc, .slice o is.length c] 25)).alloc (.cells #[.int .i64 6, .string (st t'), .slice ko' kl'.length kc', .slice o' is'.length c'] 25)) = V0 at *
  have hVg := hq (fun wr (hb : Below V0.heap.size V0 wr) => four_cells (HW0.o.grow hb))
  have hVh := hq (fun wr (hb : Below V0.heap.size V0 wr) => four_cells (HW1.o.grow hb))
  go_cut [5, 6] from 8 to 11 (fun a b wx => ∃ pa ca pb cb, a = .slice pa oa.length ca ∧ b = .slice pb ob.length cb ∧ Hq (NatsIn wx pa oa) ∧ Hq (NatsIn wx pb ob) ∧ Hq (Below V0.heap.size V0 wx))
  case first =>
    have HS := hq (fun V (hb : Below V0.heap.size V0 V) => And.intro (hVg.o V hb) (hVh.o V hb))
    obtain ⟨⟨a0, a1, a2, a3⟩, b0, b1, b2, b3⟩ := HS.o V0 (Below.refl _ _)
    have HBY : Hq (∀ (V : World) (A : Value) (od : List Nat), ((A = .agg #[.int .i64 6, .string (st t), .slice ko kl.length kc, .slice o is.length c] ∧ od = oa) ∨ (A = .agg #[.int .i64 6, .string (st t'), .slice ko' kl'.length kc', .slice o' is'.length c'] ∧ od = ob)) → Below V0.heap.size V0 V → Calls Tryz.prog 62 #[A] V (NatsPost V.heap.size od V)) := hq (fun V A od h hb => by
      rcases h with ⟨rfl, rfl⟩ | ⟨rfl, rfl⟩
      · exact HBA.o V (below_trans HB0.o hb)
      · exact HBB.o V (below_trans HB0.o hb))
    have HBD := hq ((Below.refl V0.heap.size V0).drew)
    clear HBA HBB HIH HP HMM HX HY HTA HTB HLA HLB hkl hkc hkl' hkc' hcl hcl' hcc hcc' hl4 hl4'
    go_region_with (go_at_call 62; refine (HBY.o _ _ _ (by first | exact .inl ⟨rfl, rfl⟩ | exact .inr ⟨rfl, rfl⟩) (by first | exact HBD.o | exact HB9.o)).mono ?_; rintro e9 w9 ⟨va, rfl, hva, hb9⟩; obtain ⟨pA, cA, rfl⟩ := row_shapeV hva; have hNA := hq (nats_of_own hva); have hB9 := hq hb9; have HB9 := hq (show Below V0.heap.size V0 w9 from by first | exact below_trans HB9.o hb9 | exact below_trans HBD.o hb9); obtain ⟨⟨a0, a1, a2, a3⟩, b0, b1, b2, b3⟩ := HS.o w9 HB9.o; clear hva hb9)
    all_goals
      go_wp2_with fail
      go_meet
      refine ⟨_, _, _, _, rfl, rfl, ?_, ?_, HB9⟩
    all_goals
      first
      | assumption
      | exact hq (NatsIn.grow (Hq.o (by assumption)) (Hq.o (by assumption)))
  case rest =>
    obtain ⟨pa, ca, pb, cb, rfl, rfl, HNA, HNB, HBC⟩ := hcut
    have HAO := hq (fun V (hb : Below wc.heap.size wc V) => And.intro (hVg.o V (below_trans HBC.o hb)) (hVh.o V (below_trans HBC.o hb)))
    have HBW := hq (below_trans HB0.o HBC.o)
    have hoal : oa.length ≤ 1000000 := by have := HLA.o; omega
    have hobl : ob.length ≤ 1000000 := by have := HLB.o; omega
    have HC1 := hq (rowsI_any (w0 := wc) (fun i j => cmpB (keyAt kl i) (keyAt kl' j)) enter_objects1 (caps := #[.pointer (some ⟨w.heap.size, 0, none⟩), .pointer (some ⟨w.heap.size + 1, 0, none⟩)]) pa pb ca cb oa ob hoal hobl HNA.o HNB.o (fun i hi j hj V hV => objects1_any _ _ ko ko' kc kc' kl kl' V hkl hkc hkl' hkc' (HAO.o V hV).1.2.2.1 (HAO.o V hV).2.2.2.1 (((HX.o.grow HBW.o).grow hV).hks.rd) (((HY.o.grow HBW.o).grow hV).hks.rd) i j (by have := HTA.o i hi; have := HL6.o; omega) (by have := HTB.o j hj; have := HL6'.o; omega)) wc (Below.refl _ _))
    have HC2 := hq (fun V (hV : Below wc.heap.size wc V) => rowsI_any (w0 := wc) (fun i j => cmpS (is.map Vt.m |>.getD i default) (is'.map Vt.m |>.getD j default)) enter_objects2 (caps := #[.pointer (some ⟨w.heap.size, 0, none⟩), .pointer (some ⟨w.heap.size + 1, 0, none⟩)]) pa pb ca cb oa ob hoal hobl HNA.o HNB.o (fun i hi j hj V hV => by
      have h1 := HTA.o i hi
      have h2 := HTB.o j hj
      have e1 : (is.map Vt.m).getD i default = is[i].m := by simp [h1]
      have e2 : (is'.map Vt.m).getD j default = is'[j].m := by simp [h2]
      rw [e1, e2]
      exact objects2_any _ _ o o' c c' is is' V hcl hcc hcl' hcc' (HAO.o V hV).1.2.2.2 (HAO.o V hV).2.2.2.2 (((HX.o.grow HBW.o).grow hV).at_) (((HY.o.grow HBW.o).grow hV).at_) i j h1 h2 _ (fun W hW => HIH.o _ (List.getElem_mem h1) _ (List.getElem_mem h2) W (below_trans HBW.o (below_trans hV hW)))) V hV)
    generalize lexM (fun i j => cmpB (keyAt kl i) (keyAt kl' j)) oa ob = c1 at *
    generalize lexM (fun i j => cmpS (is.map Vt.m |>.getD i default) (is'.map Vt.m |>.getD j default)) oa ob = c2 at *
    clear HAO HIH HTA HTB HX HY HLA HLB HBA HBB HNA HNB hVg hVh
    go_wp2_with fail
    refine HC1.o.mono ?_
    rintro e w2 ⟨rfl, hb2⟩
    have HB2 := hq hb2
    clear HC1 hb2
    by_cases h0 : c1 = 0
    · have e0 : (c1 != 0) = false := by rw [bne, beq_iff_eq.2 h0]; rfl
      have HM2 := hq (HMM.o.trans (if_neg (fun h => h h0)))
      clear h0 HMM
      go_wp2_with fail
      refine (HC2.o w2 HB2.o).mono ?_
      rintro e w3 ⟨rfl, hb3⟩
      have HV := hq (HP.o c2 w3 HM2.o.symm (below_trans (below_trans HBW.o HB2.o) hb3))
      clear HP HM2 hb3 HC2
      go_wp2_with fail
      exact HV.o
    · have e0 : (c1 != 0) = true := bne_iff_ne.2 h0
      have HV := hq (HP.o c1 w2 (HMM.o.trans (if_pos h0)).symm (below_trans HBW.o HB2.o))
      clear h0 HMM HP HC2
      go_wp2_with fail
      exact HV.o
end Go.Proofs.YtnlkokgekjlmmaaGreatDoor

namespace Go.Proofs.YtnlkokgekjlmmaaGreatDoor
open Go.RowKit

theorem cmpS_kind {v w : Vl} (h : v.k ≠ w.k) : cmpS v w = Lib.compareInt v.k w.k := by
  unfold cmpS Lib.compareInt
  by_cases h1 : v.k < w.k
  · rw [cmpV_lt (by rw [sortV_k, sortV_k]; exact h1), if_pos h1]
  · rw [cmpV_gt (by rw [sortV_k, sortV_k]; omega), if_neg h1, if_pos (by omega)]
theorem cmpS_body {v w : Vl} (h : v.k = w.k) : cmpS v w = bodyV v.k (sortV v) (sortV w) := by
  unfold cmpS
  rw [cmpV_same (by rw [sortV_k, sortV_k]; exact h), sortV_k]
theorem cmpS_num {v w : Vl} (h : v.k = w.k) (h3 : v.k = 3) : cmpS v w = compareM (numT v.t) (numT w.t) := by
  rw [cmpS_body h]
  unfold bodyV
  rw [if_pos h3, sortV_t, sortV_t]
theorem cmpS_txt {v w : Vl} (h : v.k = w.k) (h3 : v.k ≠ 3) (h5 : v.k ≠ 5) (h6 : v.k ≠ 6) : cmpS v w = cmpB v.t w.t := by
  rw [cmpS_body h]
  unfold bodyV
  rw [if_neg h3, if_neg h5, if_neg h6, sortV_t, sortV_t]
theorem cmpS_arr {t t' : Bs} {ks ks' : List Bs} {is is' : List Vl} : cmpS (.mk 5 t ks is) (.mk 5 t' ks' is') = lexM cmpS is is' := by
  rw [cmpS_body (by rfl)]
  rw [sortV_else (by decide), sortV_else (by decide)]
  show bodyV 5 _ _ = _
  unfold bodyV
  rw [if_neg (by decide), if_pos rfl]
  simp only [Vl.is]
  rw [lexM_map]
  rfl
set_option maxHeartbeats 16000000 in
set_option maxRecDepth 1000000 in
theorem vcompare_any : ∀ (x y : Vt) (w : World), Env w → x.Ok w → y.Ok w → Good x.m → Good y.m → x.m.All Lim → y.m.All Lim → x.m.size ≤ 1000000 → y.m.size ≤ 1000000 → Calls Tryz.prog 58 #[x.v, y.v] w (IPost (cmpS x.m y.m) w) := Vt.ind (fun k t ks o c is ih y w hE hx hy hgx hgy hlx hly hsx hsy => by
  have hix : ∀ p ∈ is, p.m.size ≤ 1000000 := fun p hp => by
    rw [Vt.m_mk] at hsx
    simp only [Vl.size] at hsx
    have := Vl.sizes_le p.m (List.mem_map.2 ⟨p, hp, rfl⟩)
    omega
  have hiy : ∀ q ∈ y.is, q.m.size ≤ 1000000 := fun q hq' => by
    cases y
    rw [Vt.m_mk] at hsy
    simp only [Vl.size] at hsy
    have := Vl.sizes_le q.m (List.mem_map.2 ⟨q, hq', rfl⟩)
    simp only [Vt.is] at this
    omega
  have HOB := hq (fun (h6 : k = 6) (h6' : y.k = 6) V (hV : Below w.heap.size w V) => objects_any (Vt.mk k t ks o c is) y V (hx.grow hV) (hy.grow hV) h6 h6' hgx hgy (fun p hp q hq' W hW => ih p hp q W (hE.grow (below_trans hV hW)) ((hx.mem p hp).grow (below_trans hV hW)) (by cases y; exact (hy.mem q hq').grow (below_trans hV hW)) (by rw [Vt.m_mk] at hgx; exact hgx.items _ (List.mem_map.2 ⟨p, hp, rfl⟩)) (by cases y; rw [Vt.m_mk] at hgy; exact hgy.items _ (List.mem_map.2 ⟨q, hq', rfl⟩)) (by rw [Vt.m_mk] at hlx; exact hlx.items _ (List.mem_map.2 ⟨p, hp, rfl⟩)) (by cases y; rw [Vt.m_mk] at hly; exact hly.items _ (List.mem_map.2 ⟨q, hq', rfl⟩)) (hix p hp) (hiy q hq')))
  obtain ⟨ko, kc, kl⟩ := ks
  obtain ⟨k', t', ⟨ko', kc', kl'⟩, o', c', is'⟩ := y
  have HIH := hq (fun (p : Vt) (hp : p ∈ is) (q : Vt) (hq' : q ∈ is') V (hV : Below w.heap.size w V) => ih p hp q V (hE.grow hV) ((hx.mem p hp).grow hV) ((hy.mem q hq').grow hV) (by rw [Vt.m_mk] at hgx; exact hgx.items _ (List.mem_map.2 ⟨p, hp, rfl⟩)) (by rw [Vt.m_mk] at hgy; exact hgy.items _ (List.mem_map.2 ⟨q, hq', rfl⟩)) (by rw [Vt.m_mk] at hlx; exact hlx.items _ (List.mem_map.2 ⟨p, hp, rfl⟩)) (by rw [Vt.m_mk] at hly; exact hly.items _ (List.mem_map.2 ⟨q, hq', rfl⟩)) (hix p hp) (hiy q hq'))
  rw [Vt.m_mk] at *
  rw [Vt.m_mk] at *
  simp only [Vt.k] at *
  have htl : t.length ≤ 1048576 := hlx.here.1
  have htl' : t'.length ≤ 1048576 := hly.here.1
  have HLN : Hq (k = 5 → is.length ≤ 1000000 ∧ is'.length ≤ 1000000) := hq (fun _ => by
    simp only [Vl.size] at hsx hsy
    have h1 := Vl.sizes_length (is.map Vt.m)
    have h2 := Vl.sizes_length (is'.map Vt.m)
    rw [List.length_map] at h1 h2
    omega)
  have hn5 : k = 5 ∨ k = 6 ∨ (k ≠ 5 ∧ k ≠ 6) := by omega
  have hcl := hx.hl
  have hcc := hx.hc
  have hcl' := hy.hl
  have hcc' := hy.hc
  have HKD : Hq (k ≠ k' → cmpS (.mk k t kl (is.map Vt.m)) (.mk k' t' kl' (is'.map Vt.m)) = Lib.compareInt k k') := hq (fun h => cmpS_kind (v := .mk k t kl (is.map Vt.m)) (w := .mk k' t' kl' (is'.map Vt.m)) h)
  have HNM : Hq (k = k' → k = 3 → cmpS (.mk k t kl (is.map Vt.m)) (.mk k' t' kl' (is'.map Vt.m)) = compareM (numT t) (numT t')) := hq (fun h h3 => cmpS_num (v := .mk k t kl (is.map Vt.m)) (w := .mk k' t' kl' (is'.map Vt.m)) h h3)
  have HTX : Hq (k = k' → k ≠ 3 → k ≠ 5 → k ≠ 6 → cmpS (.mk k t kl (is.map Vt.m)) (.mk k' t' kl' (is'.map Vt.m)) = cmpB t t') := hq (fun h h3 h5 h6 => cmpS_txt (v := .mk k t kl (is.map Vt.m)) (w := .mk k' t' kl' (is'.map Vt.m)) h h3 h5 h6)
  have HAR : Hq (k = k' → k = 5 → cmpS (.mk k t kl (is.map Vt.m)) (.mk k' t' kl' (is'.map Vt.m)) = lexM (fun p q => cmpS p.m q.m) is is') := hq (fun h h5 => by
    subst h h5
    rw [cmpS_arr, lexM_map])
  have HP : Hq (∀ (m : Int) W', m = cmpS (.mk k t kl (is.map Vt.m)) (.mk k' t' kl' (is'.map Vt.m)) → Below w.heap.size w W' → IPost (cmpS (.mk k t kl (is.map Vt.m)) (.mk k' t' kl' (is'.map Vt.m))) w (.returned (.int .i64 m)) W') := hq (fun m W' h h2 => ⟨by rw [h], h2⟩)
  generalize cmpS (.mk k t kl (is.map Vt.m)) (.mk k' t' kl' (is'.map Vt.m)) = CM at *
  generalize IPost CM w = PP at *
  rw [Vt.v_mk'] at *
  rw [Vt.v_mk'] at *
  obtain ⟨hb0, hw0, hw1⟩ := two_boxes w 25 #[.int .i64 k, .string (st t), .slice ko kl.length kc, .slice o is.length c] #[.int .i64 k', .string (st t'), .slice ko' kl'.length kc', .slice o' is'.length c']
  have HX := hq hx
  have HY := hq hy
  have HE := hq hE
  have HB0 := hq hb0
  have HW0 := hq hw0
  have HW1 := hq hw1
  clear hx hy hgx hgy hlx hly ih hE hb0 hw0 hw1 hsx hsy hix hiy
  go_enter Tryz.func58, Tryz.ntmps58
  go_upto_region 1 with fail
  generalize w.heap.size = g at HW0 HW1
  generalize ((w.alloc (.cells #[.int .i64 k, .string (st t), .slice ko kl.length kc, .slice o is.length c] 25)).alloc (.cells #[.int .i64 k', .string (st t'), .slice ko' kl'.length kc', .slice o' is'.length c'] 25)) = V0 at *
  have hVg := hq (fun wr (hb : Below V0.heap.size V0 wr) => four_cells (HW0.o.grow hb))
  have hVh := hq (fun wr (hb : Below V0.heap.size V0 wr) => four_cells (HW1.o.grow hb))
  obtain ⟨c0, c1, c2, c3⟩ := hVg.o V0 (Below.refl _ _)
  obtain ⟨d0, d1, d2, d3⟩ := hVh.o V0 (Below.refl _ _)
  by_cases hk : k = k'
  case neg =>
    have hz : (k != k') = true := bne_iff_ne.2 hk
    have HV := hq (HP.o (Lib.compareInt k k') V0 (HKD.o hk).symm HB0.o)
    have HCI := hq (fun V => Tryz.cmp_Compare_int k k' V)
    clear HP HKD HNM HTX HAR HIH HOB hk hn5 HX HY HE HLN
    generalize Lib.compareInt k k' = cc at *
    go_wp2_with fail
    refine (HCI.o _).mono ?_
    rintro e w2 ⟨rfl, h2⟩
    obtain rfl := h2.symm
    go_wp2_with fail
    exact HV.o
  have hz : (k != k') = false := by rw [bne, beq_iff_eq.2 hk]; rfl
  have HKK := hq hk
  clear HKD hk
  by_cases h3 : k = 3
  · have e3 : (k == 3) = true := beq_iff_eq.2 h3
    have HM := hq (HNM.o HKK.o h3)
    have HD1 := hq (fun V (hV : Below V0.heap.size V0 V) => decimal_any t V (HE.o.grow (below_trans HB0.o hV)).its htl)
    have HD2 := hq (fun V (hV : Below V0.heap.size V0 V) => decimal_any t' V (HE.o.grow (below_trans HB0.o hV)).its htl')
    obtain ⟨n1, n2, n3⟩ := numT_bd t
    obtain ⟨m1, m2, m3⟩ := numT_bd t'
    unfold DecP at HD1 HD2
    clear HNM HTX HAR HIH HOB hn5 HX HY HE HKK h3 HLN
    generalize numT t = q1 at *
    generalize numT t' = q2 at *
    obtain ⟨na, DA, EA⟩ := q1
    obtain ⟨nb, DB, EB⟩ := q2
    simp only [Dec.val] at *
    have HNC := hq (fun W => compare_any na DA EA nb DB EB W (by omega) (by omega) (by omega) (by omega))
    generalize compareM ⟨na, DA, EA⟩ ⟨nb, DB, EB⟩ = cc at *
    generalize decM t = b1 at *
    generalize decM t' = b2 at *
    go_wp2_with fail
    refine (HD1.o V0 (Below.refl _ _)).mono ?_
    rintro e w2 ⟨rfl, hb2⟩
    have hb3 := below_trans hb2 (below_alloc w2 (.cells #[.bool na, .string (st DA), .int .i64 EA] 66))
    have HWn := hq (Whole.made w2 66 #[.bool na, .string (st DA), .int .i64 EA])
    have HB3 := hq hb3
    clear hb2 hb3 HD1 c0 c1 c2 c3 d0 d1 d2 d3
    go_upto_region 6 with fail
    generalize w2.heap.size = gn at *
    generalize (w2.alloc (.cells #[.bool na, .string (st DA), .int .i64 EA] 66)) = W3 at *
    obtain ⟨d0, d1, d2, d3⟩ := hVh.o W3 HB3.o
    go_wp2_with fail
    refine (HD2.o W3 HB3.o).mono ?_
    rintro e w4 ⟨rfl, hb4⟩
    have hb5 := below_trans hb4 (below_alloc w4 (.cells #[.bool nb, .string (st DB), .int .i64 EB] 66))
    have HWm := hq (Whole.made w4 66 #[.bool nb, .string (st DB), .int .i64 EB])
    have HB5 := hq (below_trans HB3.o hb5)
    obtain ⟨p0, p1, p2⟩ := three_cells (HWn.o.grow hb5)
    clear hb4 hb5 HD2 d0 d1 d2 d3 HWn
    go_upto_region 7 with fail
    generalize w4.heap.size = gm at *
    generalize (w4.alloc (.cells #[.bool nb, .string (st DB), .int .i64 EB] 66)) = W5 at *
    obtain ⟨r0, r1, r2⟩ := three_cells HWm.o
    go_wp2_with fail
    refine (HNC.o W5).mono ?_
    rintro e w6 ⟨rfl, hb6⟩
    have HV := hq (HP.o cc w6 HM.o.symm (below_trans HB0.o (below_trans HB5.o hb6)))
    clear hb6 HP HM HNC HB5 HB3 HB0
    go_wp2_with fail
    exact HV.o
  have e3 : (k == 3) = false := beq_eq_false_iff_ne.2 h3
  by_cases h5 : k = 5
  · have e5 : (k == 5) = true := beq_iff_eq.2 h5
    have HM := hq (HAR.o HKK.o h5)
    have HRW := hq (rowsV_any (w0 := V0) (fun p q => cmpS p.m q.m) enter_compare (caps := #[]) o o' c c' is is' (HLN.o h5).1 (HLN.o h5).2 ((HX.o.grow HB0.o).at_) ((HY.o.grow HB0.o).at_) (fun p hp q hq' W hW => by
      have h := HIH.o p hp q hq' W (below_trans HB0.o hW)
      simpa using h) V0 (Below.refl _ _))
    clear HNM HTX HAR HIH HOB hn5 HX HY HE HKK h5 h3 HLN
    generalize lexM (fun p q : Vt => cmpS p.m q.m) is is' = cc at *
    go_wp2_with fail
    refine HRW.o.mono ?_
    rintro e w2 ⟨rfl, hb2⟩
    have HV := hq (HP.o cc w2 HM.o.symm (below_trans HB0.o hb2))
    clear hb2 HP HM HRW
    go_wp2_with fail
    exact HV.o
  have e5 : (k == 5) = false := beq_eq_false_iff_ne.2 h5
  by_cases h6 : k = 6
  · have e6 : (k == 6) = true := beq_iff_eq.2 h6
    have HOC := hq (HOB.o h6 (by rw [← HKK.o]; exact h6) V0 HB0.o)
    clear HNM HTX HAR HIH HOB hn5 HX HY HE HKK h5 h3 h6 HLN
    go_wp2_with fail
    refine HOC.o.mono ?_
    rintro e w2 ⟨rfl, hb2⟩
    have HV := hq (HP.o CM w2 rfl (below_trans HB0.o hb2))
    clear hb2 HP HOC
    go_wp2_with fail
    exact HV.o
  have e6 : (k == 6) = false := beq_eq_false_iff_ne.2 h6
  have HM := hq (HTX.o HKK.o h3 h5 h6)
  have HCM := hq (fun W => Tryz.strings_Compare (st t) (st t') W)
  rw [st_list, st_list] at HCM
  clear HNM HTX HAR HIH HOB hn5 HX HY HE HKK h5 h3 h6 HLN
  have HCM2 : Hq (∀ W, Calls Tryz.prog 110 #[.string (st t), .string (st t')] W fun e w' => e = .returned (.int .i64 (cmpB t t')) ∧ w' = W) := hq (fun W => HCM.o W)
  generalize cmpB t t' = cc at *
  clear HCM
  go_wp2_with fail
  refine (HCM2.o _).mono ?_
  rintro e w2 ⟨rfl, h2⟩
  obtain rfl := h2.symm
  have HV := hq (HP.o cc V0 HM.o.symm HB0.o)
  clear HP HM HCM2
  go_wp2_with fail
  exact HV.o)
end Go.Proofs.YtnlkokgekjlmmaaGreatDoor

namespace Go.Proofs.YtnlkokgekjlmmaaGreatDoor
open Go.RowKit

theorem openM_good {v : Vl} (h : openM v = true) : Good v ∧ v.size ≤ 4096 ∧ v.depth ≤ 32 := by
  unfold openM at h
  simp only [Bool.and_eq_true, decide_eq_true_eq] at h
  exact ⟨h.2.2, h.1, h.2.1⟩
/-- a tree that the layers take -/
structure Fine (x : Vt) (w : World) : Prop where
  ok : x.Ok w
  lim : x.m.All Lim
  sz : x.m.size ≤ 1000000
theorem Fine.grow {x : Vt} {w w' : World} (h : Fine x w) (hb : Below w.heap.size w w') : Fine x w' := ⟨h.ok.grow hb, h.lim, h.sz⟩
theorem cmp_open (x y : Vt) (w : World) (hE : Env w) (hx : Fine x w) (hy : Fine y w) (ox : openM x.m = true) (oy : openM y.m = true) : Calls Tryz.prog 58 #[x.v, y.v] w (IPost (cmpS x.m y.m) w) :=
  vcompare_any x y w hE hx.ok hy.ok (openM_good ox).1 (openM_good oy).1 hx.lim hy.lim hx.sz hy.sz
set_option maxHeartbeats 8000000 in
set_option maxRecDepth 1000000 in
theorem vSame_any (x y : Vt) (w : World) (hE : Env w) (hx : Fine x w) (hy : Fine y w) : Calls Tryz.prog 24 #[x.v, y.v] w (BPost (sameM x.m y.m) w) := by
  have HCX := hq (fun (ox : openM x.m = true) (oy : openM y.m = true) V (hV : Below w.heap.size w V) => cmp_open x y V (hE.grow hV) (hx.grow hV) (hy.grow hV) ox oy)
  have HOA := hq (fun V (hV : Below w.heap.size w V) => open_any x V (hE.grow hV) (hx.ok.grow hV) hx.lim (by have := hx.sz; omega))
  have HOB := hq (fun V (hV : Below w.heap.size w V) => open_any y V (hE.grow hV) (hy.ok.grow hV) hy.lim (by have := hy.sz; omega))
  obtain ⟨k, t, ⟨ko, kc, kl⟩, o, c, is⟩ := x
  obtain ⟨k', t', ⟨ko', kc', kl'⟩, o', c', is'⟩ := y
  have HCD : Hq (sameM (Vt.mk k t ⟨ko, kc, kl⟩ o c is).m (Vt.mk k' t' ⟨ko', kc', kl'⟩ o' c' is').m = (openM (Vt.mk k t ⟨ko, kc, kl⟩ o c is).m && (openM (Vt.mk k' t' ⟨ko', kc', kl'⟩ o' c' is').m && decide (cmpS (Vt.mk k t ⟨ko, kc, kl⟩ o c is).m (Vt.mk k' t' ⟨ko', kc', kl'⟩ o' c' is').m = 0)))) := hq rfl
  rw [Vt.v_mk'] at *
  rw [Vt.v_mk'] at *
  generalize (Vt.mk k t ⟨ko, kc, kl⟩ o c is).m = X at *
  generalize (Vt.mk k' t' ⟨ko', kc', kl'⟩ o' c' is').m = Y at *
  have HP : Hq (∀ (m : Bool) W', m = sameM X Y → Below w.heap.size w W' → BPost (sameM X Y) w (.returned (.bool m)) W') := hq (fun m W' h h2 => ⟨by rw [h], h2⟩)
  generalize sameM X Y = CM at *
  generalize BPost CM w = PP at *
  obtain ⟨hb0, hw0, hw1⟩ := two_boxes w 25 #[.int .i64 k, .string (st t), .slice ko kl.length kc, .slice o is.length c] #[.int .i64 k', .string (st t'), .slice ko' kl'.length kc', .slice o' is'.length c']
  have HB0 := hq hb0
  have HW0 := hq hw0
  have HW1 := hq hw1
  clear hx hy hE hb0 hw0 hw1
  go_enter Tryz.func24, Tryz.ntmps24
  go_upto_region 1 with fail
  generalize w.heap.size = g at HW0 HW1
  generalize ((w.alloc (.cells #[.int .i64 k, .string (st t), .slice ko kl.length kc, .slice o is.length c] 25)).alloc (.cells #[.int .i64 k', .string (st t'), .slice ko' kl'.length kc', .slice o' is'.length c'] 25)) = V0 at *
  have hVg := hq (fun wr (hb : Below V0.heap.size V0 wr) => four_cells (HW0.o.grow hb))
  have hVh := hq (fun wr (hb : Below V0.heap.size V0 wr) => four_cells (HW1.o.grow hb))
  generalize openM X = ox at *
  generalize openM Y = oy at *
  generalize cmpS X Y = cc at *
  obtain ⟨c0, c1, c2, c3⟩ := hVg.o V0 (Below.refl _ _)
  have HAC := hq (HOA.o V0 HB0.o)
  clear HOA
  go_wp2_with fail
  refine HAC.o.mono ?_
  rintro e w2 ⟨rfl, hb2⟩
  have HB2 := hq (below_trans HB0.o hb2)
  have HV2 := hq hb2
  obtain ⟨d0, d1, d2, d3⟩ := hVh.o w2 hb2
  clear hb2 HAC c0 c1 c2 c3
  cases ox with
  | false =>
    have HV := hq (HP.o false w2 HCD.o.symm HB2.o)
    clear HP HCD HCX HOB
    go_wp2_with fail
    exact HV.o
  | true =>
    have HBC := hq (HOB.o w2 HB2.o)
    clear HOB
    go_wp2_with fail
    refine HBC.o.mono ?_
    rintro e w3 ⟨rfl, hb3⟩
    have HB3 := hq (below_trans HB2.o hb3)
    obtain ⟨c0, c1, c2, c3⟩ := hVg.o w3 (below_trans HV2.o hb3)
    obtain ⟨e0, e1, e2, e3⟩ := hVh.o w3 (below_trans HV2.o hb3)
    clear hb3 HBC d0 d1 d2 d3
    cases oy with
    | false =>
      have HV := hq (HP.o false w3 HCD.o.symm HB3.o)
      clear HP HCD HCX
      go_wp2_with fail
      exact HV.o
    | true =>
      have HCC := hq (HCX.o (by first | rfl | trivial) (by first | rfl | trivial) w3 HB3.o)
      clear HCX
      go_wp2_with fail
      refine HCC.o.mono ?_
      rintro e w4 ⟨rfl, hb4⟩
      have HV := hq (HP.o (cc == 0) w4 (by
        rw [HCD.o]
        by_cases h : cc = 0 <;> simp [h]) (below_trans HB3.o hb4))
      clear HP HCD HCC hb4
      go_wp2_with fail
      all_goals exact HV.o
end Go.Proofs.YtnlkokgekjlmmaaGreatDoor

namespace Go.Proofs.YtnlkokgekjlmmaaGreatDoor
open Go.RowKit

/-- a tree that remake takes -/
def Rem1 (v : Vl) : Prop := Good v ∧ v.size ≤ 1000000
theorem Rem1.items {k : Int} {t : Bs} {ks : List Bs} {is : List Vl} (h : Rem1 (.mk k t ks is)) : ∀ x ∈ is, Rem1 x := fun x hx => by
  refine ⟨h.1.items x hx, ?_⟩
  have h1 := h.2
  simp only [Vl.size] at h1
  have := Vl.sizes_le x hx
  omega
def ordR (v : Vl) : List Nat := List.range v.is.length
theorem rem_len {v : Vl} (h : Rem1 v) : v.is.length ≤ 1000000 := by
  obtain ⟨k, t, ks, is⟩ := v
  have h1 := h.2
  simp only [Vl.size] at h1
  have := Vl.sizes_length is
  simp only [Vl.is]
  omega
theorem ordOk_R : OrdOk ordR Rem1 where
  lt k t ks is _ i hi := List.mem_range.1 hi
  keys k t ks is h h6 := (h.1.obj h6).1
  len v h := by unfold ordR; rw [List.length_range]; exact rem_len h
  items k t ks is h := h.items
theorem ordK_lt (v : Vl) : ∀ i ∈ ordK v, i < v.is.length := fun i hi => by
  unfold ordK at hi
  split at hi
  · exact ordN_lt i hi
  · exact List.mem_range.1 hi
theorem ordOk_K : OrdOk ordK Rem1 where
  lt k t ks is _ i hi := ordK_lt _ i hi
  keys k t ks is h h6 := (h.1.obj h6).1
  len v h := by rw [ordK_len]; exact rem_len h
  items k t ks is h := h.items
theorem Good.nokeys {k : Int} {t : Bs} {ks : List Bs} {is : List Vl} (h : Good (.mk k t ks is)) (h6 : k ≠ 6) : ks = [] := by
  have h1 := h.node
  rw [nodeM_mk] at h1
  by_cases h5 : k = 5
  · rw [if_pos h5] at h1
    simp only [Bool.and_eq_true, decide_eq_true_eq] at h1
    exact h1.2
  · rw [if_neg h5, if_neg h6] at h1
    simp only [Bool.and_eq_true, decide_eq_true_eq] at h1
    exact h1.1.1
theorem range_getD {α : Type} (l : List α) (d : α) : (List.range l.length).map (fun i => l.getD i d) = l := by
  apply List.ext_getElem
  · simp
  · intro i h1 h2
    simp [h2]
theorem remV_R : ∀ v : Vl, Good v → remV ordR v = v := Vl.ind (fun k t ks is ih h => by
  have hi : remL ordR is = is := by
    rw [remL_map]
    conv => rhs; rw [← List.map_id is]
    exact List.map_congr_left (fun x hx => ih x hx (h.items x hx))
  have ho : ordR (.mk k t ks is) = List.range is.length := rfl
  simp only [remV]
  rw [ho, hi, range_getD]
  congr 1
  by_cases h6 : k = 6
  · rw [if_pos h6]
    have hl := (h.obj h6).1
    rw [← hl]
    exact range_getD ks []
  · rw [if_neg h6, h.nokeys h6])
theorem remV_K : ∀ v : Vl, Good v → remV ordK v = sortV v := Vl.ind (fun k t ks is ih h => by
  have hi : remL ordK is = is.map sortV := by
    rw [remL_map]
    exact List.map_congr_left (fun x hx => ih x hx (h.items x hx))
  by_cases h6 : k = 6
  · subst h6
    obtain ⟨h1, _, h2⟩ := h.obj rfl
    have hb : ByKey ks is.length (ordN ks is.length) := byKey_merge h2 h1
    have ho : ordK (.mk 6 t ks is) = ordN ks is.length := by
      show (if (6 : Int) = 6 then ordN ks is.length else _) = _
      rw [if_pos rfl]
    rw [sortV_obj h1 h2 hb]
    simp only [remV]
    rw [ho, hi, if_pos trivial]
    congr 1
    refine List.map_congr_left (fun i hi' => ?_)
    have := ordN_lt i hi'
    simp [this]
  · have ho : ordK (.mk k t ks is) = List.range is.length := by
      show (if k = 6 then _ else List.range is.length) = _
      rw [if_neg h6]
    rw [sortV_else h6]
    simp only [remV]
    rw [ho, hi, if_neg h6]
    congr 1
    have := range_getD (is.map sortV) default
    rw [List.length_map] at this
    exact this)
theorem enter_stand (args : Array Value) (w : World) : (callFunc 111 args).run Tryz.prog w = .ok (.enter 111 args) w := by kernel_rfl
theorem enter_bykey (args : Array Value) (w : World) : (callFunc 62 args).run Tryz.prog w = .ok (.enter 62 args) w := by kernel_rfl
/-- remake in the order in which the items stand: the same tree, in new memory -/
theorem remRN_any (x : Vt) (w : World) (hok : x.Ok w) (hr : Rem1 x.m) : Calls Tryz.prog 61 #[x.v, .func (.func 111) #[] #[]] w (RemPostN x.m w) := by
  have h := remakeN_any (w0 := w) ordOk_R enter_stand (fun y W _ hy hg => by
    have h1 := stand_any y W (by have := rem_len hg; cases y; rw [Vt.m_mk] at this; simpa [Vl.is, Vt.is] using this)
    have e : ordR y.m = List.range y.is.length := by cases y; rw [Vt.m_mk]; unfold ordR; simp [Vl.is, Vt.is]
    rw [e]; exact h1) x w (Below.refl _ _) hok hr
  rw [remV_R _ hr.1] at h
  exact h
theorem remR_any (x : Vt) (w : World) (hok : x.Ok w) (hr : Rem1 x.m) : Calls Tryz.prog 61 #[x.v, .func (.func 111) #[] #[]] w (RemPost x.m w) := (remRN_any x w hok hr).mono fun _ _ h => h.post
theorem remK_any (x : Vt) (w : World) (hok : x.Ok w) (hr : Rem1 x.m) : Calls Tryz.prog 61 #[x.v, .func (.func 62) #[] #[]] w (RemPost (sortV x.m) w) := by
  have h := remake_any (w0 := w) ordOk_K enter_bykey (fun y W _ hy hg => by
    refine bykey_any y W hy (by have := rem_len hg; cases y; rw [Vt.m_mk] at this; simpa [Vl.is, Vt.is] using this) (fun h6 => ?_)
    cases y
    rw [Vt.m_mk] at hg
    have h2 := hg.1.obj h6
    rw [List.length_map] at h2
    exact ⟨h2.1, h2.2.2⟩) x w (Below.refl _ _) hok hr
  rw [remV_K _ hr.1] at h
  exact h
end Go.Proofs.YtnlkokgekjlmmaaGreatDoor

namespace Go.Proofs.YtnlkokgekjlmmaaGreatDoor
open Go.RowKit

/-- the tree of no kind -/
def zeroL : Vl := .mk 0 [] [] []
def zeroT : Vt := .mk 0 [] ⟨none, 0, []⟩ none 0 []
theorem zeroT_own (B : Nat) (w : World) : zeroT.Own 25 9 B (fun _ => True) w :=
  .mk _ _ _ _ _ _ (World.ownsRow_nil _ _ _ _) (fun _ _ => trivial) (World.ownsRow_nil _ _ _ _) (fun _ _ => trivial) (fun i hi => absurd hi (Nat.not_lt_zero i))
theorem zeroT_m : zeroT.m = zeroL := by unfold zeroT zeroL; rw [Vt.m_mk]; rfl
theorem below_put4 {B : Nat} {w W : World} (h : Below B w W) {g : Nat} (hg : B ≤ g) (a b c d : Value) : Below B w ((((W.setCell ⟨g, 0, none⟩ a).setCell ⟨g, 1, none⟩ b).setCell ⟨g, 2, none⟩ c).setCell ⟨g, 3, none⟩ d) :=
  below_put (below_put (below_put (below_put h hg 0 a) hg 1 b) hg 2 c) hg 3 d
theorem own_put4 {tV tS : TypeId} {B : Nat} {S : Nat → Prop} {W : World} {y : Vt} (h : y.Own tV tS B S W) {g : Nat} (hg : g < B) (a b c d : Value) : y.Own tV tS B S ((((W.setCell ⟨g, 0, none⟩ a).setCell ⟨g, 1, none⟩ b).setCell ⟨g, 2, none⟩ c).setCell ⟨g, 3, none⟩ d) :=
  (((h.set hg a).set hg b).set hg c).set hg d
set_option maxHeartbeats 8000000 in
set_option maxRecDepth 1000000 in
theorem vSorted_any (x : Vt) (w : World) (hE : Env w) (hx : Fine x w) : Calls Tryz.prog 28 #[x.v] w (RemPost (if openM x.m = true then sortV x.m else zeroL) w) := by
  have HOA := hq (fun V (hV : Below w.heap.size w V) => open_any x V (hE.grow hV) (hx.ok.grow hV) hx.lim (by have := hx.sz; omega))
  have HRM := hq (fun (ho : openM x.m = true) V (hV : Below w.heap.size w V) => remK_any x V (hx.ok.grow hV) ⟨(openM_good ho).1, hx.sz⟩)
  obtain ⟨k, t, ⟨ko, kc, kl⟩, o, c, is⟩ := x
  rw [Vt.v_mk'] at *
  generalize (Vt.mk k t ⟨ko, kc, kl⟩ o c is).m = X at *
  have HP : Hq (∀ (y : Vt) W', y.Own 25 9 w.heap.size (fun _ => True) W' → y.m = (if openM X = true then sortV X else zeroL) → Below w.heap.size w W' → RemPost (if openM X = true then sortV X else zeroL) w (.returned y.v) W') := hq (fun y W' h1 h2 h3 => ⟨y, rfl, h1, h2, h3⟩)
  generalize hR : RemPost (if openM X = true then sortV X else zeroL) w = PP at *
  clear hR
  obtain ⟨hb0, hw0, hw1⟩ := two_boxes w 25 #[.int .i64 k, .string (st t), .slice ko kl.length kc, .slice o is.length c] #[.int .i64 0, .string ⟨#[]⟩, .slice none 0 0, .slice none 0 0]
  have HB0 := hq hb0
  have HW0 := hq hw0
  have HW1 := hq hw1
  have HG1 := hq hw1.lt
  clear hx hE hb0 hw0 hw1
  go_enter Tryz.func28, Tryz.ntmps28
  go_upto_region 1 with fail
  generalize ((w.alloc (.cells #[.int .i64 k, .string (st t), .slice ko kl.length kc, .slice o is.length c] 25)).alloc (.cells #[.int .i64 0, .string ⟨#[]⟩, .slice none 0 0, .slice none 0 0] 25)) = V0 at *
  have HGW : Hq (w.heap.size ≤ w.heap.size + 1) := hq (by omega)
  obtain ⟨c0, c1, c2, c3⟩ := four_cells HW0.o
  have HOC := hq (HOA.o V0 HB0.o)
  clear HOA
  go_wp2_with fail
  refine HOC.o.mono ?_
  rintro e w2 ⟨rfl, hb2⟩
  have HB2 := hq (below_trans HB0.o hb2)
  have HS2 := hq hb2.size
  obtain ⟨d0, d1, d2, d3⟩ := four_cells (HW0.o.grow hb2)
  have HR2 := hq (HW1.o.grow hb2)
  clear hb2 HOC c0 c1 c2 c3
  by_cases ho : openM X = true
  case neg =>
    have hof : openM X = false := by simpa using ho
    obtain ⟨r0, r1, r2, r3⟩ := four_cells HR2.o
    have f0 := HR2.o.free 0
    have f1 := HR2.o.free 1
    have f2 := HR2.o.free 2
    have f3 := HR2.o.free 3
    have HV := hq (HP.o zeroT ((((w2.setCell ⟨w.heap.size + 1, 0, none⟩ (.int .i64 0)).setCell ⟨w.heap.size + 1, 1, none⟩ (.string ⟨#[]⟩)).setCell ⟨w.heap.size + 1, 2, none⟩ (.slice none 0 0)).setCell ⟨w.heap.size + 1, 3, none⟩ (.slice none 0 0)) (zeroT_own _ _) (by rw [zeroT_m, if_neg ho]) (below_put4 HB2.o HGW.o _ _ _ _))
    rw [hof]
    clear HP HRM ho hof
    go_wp2_with fail
    refine bodyPost_ret (v := zeroT.v) ?_ rfl HV.o
    simp [results, Tryz.results28, go_sem, r0, r1, r2, r3, zeroT, Vt.v_mk']
  case pos =>
    have HRC := hq (HRM.o ho w2 HB2.o)
    have HP2 := hq (fun (y : Vt) W' h1 (h2 : y.m = sortV X) h3 => HP.o y W' h1 (by rw [h2, if_pos ho]) h3)
    rw [ho]
    clear HP HRM ho
    go_wp2_with fail
    refine HRC.o.mono ?_
    rintro e w3 ⟨y, rfl, hyo, hym, hb3⟩
    obtain ⟨yk, yt, ⟨yko, ykc, ykl⟩, yo, yc, yis⟩ := y
    have HR3 := hq (HR2.o.grow hb3)
    obtain ⟨r0, r1, r2, r3⟩ := four_cells HR3.o
    have f0 := HR3.o.free 0
    have f1 := HR3.o.free 1
    have f2 := HR3.o.free 2
    have f3 := HR3.o.free 3
    have HV := hq (fun a b c d => HP2.o _ ((((w3.setCell ⟨w.heap.size + 1, 0, none⟩ a).setCell ⟨w.heap.size + 1, 1, none⟩ b).setCell ⟨w.heap.size + 1, 2, none⟩ c).setCell ⟨w.heap.size + 1, 3, none⟩ d) ((own_put4 hyo (show w.heap.size + 1 < w2.heap.size by have := HG1.o; have := HS2.o; omega) a b c d).base (by have := HB2.o.size; omega)) hym (below_put4 (below_trans HB2.o hb3) HGW.o a b c d))
    clear hyo hym hb3 HRC HP2 d0 d1 d2 d3
    rw [Vt.v_mk']
    go_wp2_with fail
    refine bodyPost_ret (v := (Vt.mk yk yt ⟨yko, ykc, ykl⟩ yo yc yis).v) ?_ rfl (HV.o _ _ _ _)
    simp [results, Tryz.results28, go_sem, r0, r1, r2, r3, Vt.v_mk']
set_option maxHeartbeats 8000000 in
set_option maxRecDepth 1000000 in
theorem vCopyN_any (x : Vt) (w : World) (hE : Env w) (hx : Fine x w) : Calls Tryz.prog 79 #[x.v] w (RemPostN (if openM x.m = true then x.m else zeroL) w) := by
  have HOA := hq (fun V (hV : Below w.heap.size w V) => open_any x V (hE.grow hV) (hx.ok.grow hV) hx.lim (by have := hx.sz; omega))
  have HRM := hq (fun (ho : openM x.m = true) V (hV : Below w.heap.size w V) => remRN_any x V (hx.ok.grow hV) ⟨(openM_good ho).1, hx.sz⟩)
  obtain ⟨k, t, ⟨ko, kc, kl⟩, o, c, is⟩ := x
  rw [Vt.v_mk'] at *
  generalize (Vt.mk k t ⟨ko, kc, kl⟩ o c is).m = X at *
  have HP : Hq (∀ (y : Vt) W', (y.Own 25 9 w.heap.size (fun _ => True) W' ∧ y.rows.Nodup) → y.m = (if openM X = true then X else zeroL) → Below w.heap.size w W' → RemPostN (if openM X = true then X else zeroL) w (.returned y.v) W') := hq (fun y W' h1 h2 h3 => ⟨y, rfl, h1, h2, h3⟩)
  generalize hR : RemPostN (if openM X = true then X else zeroL) w = PP at *
  clear hR
  obtain ⟨hb0, hw0, hw1⟩ := two_boxes w 25 #[.int .i64 k, .string (st t), .slice ko kl.length kc, .slice o is.length c] #[.int .i64 0, .string ⟨#[]⟩, .slice none 0 0, .slice none 0 0]
  have HB0 := hq hb0
  have HW0 := hq hw0
  have HW1 := hq hw1
  have HG1 := hq hw1.lt
  clear hx hE hb0 hw0 hw1
  go_enter Tryz.func79, Tryz.ntmps79
  go_upto_region 1 with fail
  generalize ((w.alloc (.cells #[.int .i64 k, .string (st t), .slice ko kl.length kc, .slice o is.length c] 25)).alloc (.cells #[.int .i64 0, .string ⟨#[]⟩, .slice none 0 0, .slice none 0 0] 25)) = V0 at *
  have HGW : Hq (w.heap.size ≤ w.heap.size + 1) := hq (by omega)
  obtain ⟨c0, c1, c2, c3⟩ := four_cells HW0.o
  have HOC := hq (HOA.o V0 HB0.o)
  clear HOA
  go_wp2_with fail
  refine HOC.o.mono ?_
  rintro e w2 ⟨rfl, hb2⟩
  have HB2 := hq (below_trans HB0.o hb2)
  have HS2 := hq hb2.size
  obtain ⟨d0, d1, d2, d3⟩ := four_cells (HW0.o.grow hb2)
  have HR2 := hq (HW1.o.grow hb2)
  clear hb2 HOC c0 c1 c2 c3
  by_cases ho : openM X = true
  case neg =>
    have hof : openM X = false := by simpa using ho
    obtain ⟨r0, r1, r2, r3⟩ := four_cells HR2.o
    have f0 := HR2.o.free 0
    have f1 := HR2.o.free 1
    have f2 := HR2.o.free 2
    have f3 := HR2.o.free 3
    have HV := hq (HP.o zeroT ((((w2.setCell ⟨w.heap.size + 1, 0, none⟩ (.int .i64 0)).setCell ⟨w.heap.size + 1, 1, none⟩ (.string ⟨#[]⟩)).setCell ⟨w.heap.size + 1, 2, none⟩ (.slice none 0 0)).setCell ⟨w.heap.size + 1, 3, none⟩ (.slice none 0 0)) ⟨zeroT_own _ _, by show ([] : List Nat).Nodup; exact List.nodup_nil⟩ (by rw [zeroT_m, if_neg ho]) (below_put4 HB2.o HGW.o _ _ _ _))
    rw [hof]
    clear HP HRM ho hof
    go_wp2_with fail
    refine bodyPost_ret (v := zeroT.v) ?_ rfl HV.o
    simp [results, Tryz.results79, go_sem, r0, r1, r2, r3, zeroT, Vt.v_mk']
  case pos =>
    have HRC := hq (HRM.o ho w2 HB2.o)
    have HP2 := hq (fun (y : Vt) W' h1 (h2 : y.m = X) h3 => HP.o y W' h1 (by rw [h2, if_pos ho]) h3)
    rw [ho]
    clear HP HRM ho
    go_wp2_with fail
    refine HRC.o.mono ?_
    rintro e w3 ⟨y, rfl, ⟨hyo, hyn⟩, hym, hb3⟩
    obtain ⟨yk, yt, ⟨yko, ykc, ykl⟩, yo, yc, yis⟩ := y
    have HR3 := hq (HR2.o.grow hb3)
    obtain ⟨r0, r1, r2, r3⟩ := four_cells HR3.o
    have f0 := HR3.o.free 0
    have f1 := HR3.o.free 1
    have f2 := HR3.o.free 2
    have f3 := HR3.o.free 3
    have HV := hq (fun a b c d => HP2.o _ ((((w3.setCell ⟨w.heap.size + 1, 0, none⟩ a).setCell ⟨w.heap.size + 1, 1, none⟩ b).setCell ⟨w.heap.size + 1, 2, none⟩ c).setCell ⟨w.heap.size + 1, 3, none⟩ d) ⟨(own_put4 hyo (show w.heap.size + 1 < w2.heap.size by have := HG1.o; have := HS2.o; omega) a b c d).base (by have := HB2.o.size; omega), hyn⟩ hym (below_put4 (below_trans HB2.o hb3) HGW.o a b c d))
    clear hyo hyn hym hb3 HRC HP2 d0 d1 d2 d3
    rw [Vt.v_mk']
    go_wp2_with fail
    refine bodyPost_ret (v := (Vt.mk yk yt ⟨yko, ykc, ykl⟩ yo yc yis).v) ?_ rfl (HV.o _ _ _ _)
    simp [results, Tryz.results79, go_sem, r0, r1, r2, r3, Vt.v_mk']
theorem vCopy_any (x : Vt) (w : World) (hE : Env w) (hx : Fine x w) : Calls Tryz.prog 79 #[x.v] w (RemPost (if openM x.m = true then x.m else zeroL) w) := (vCopyN_any x w hE hx).mono fun _ _ h => h.post
end Go.Proofs.YtnlkokgekjlmmaaGreatDoor

namespace Go.Proofs.YtnlkokgekjlmmaaGreatDoor
open Go.RowKit

theorem decDigits_shortU (n : Int) (h0 : -9223372036854775808 ≤ n) (h1 : n ≤ 9223372036854775807) : (Lib.decDigits n.natAbs).length ≤ 1000 ∧ (Lib.itoa n).length ≤ 1000 := by
  have h := Lib.itoa_length_le n (by omega) (by omega)
  have h2 : (Lib.decDigits n.natAbs).length ≤ (Lib.itoa n).length := by
    unfold Lib.itoa
    split
    · simp
    · rename_i hn
      rw [show n.natAbs = n.toNat by omega]
      exact Nat.le_refl _
  omega
theorem of_intU (n : Int) (h0 : -9223372036854775808 ≤ n) (h1 : n ≤ 9223372036854775807) (w : World) (hI : Itoas n w) :
    Calls Tryz.prog 89 #[.int .i64 n] w (OfPost (ofM n) w) := by
  have h := decDigits_shortU n h0 h1
  exact of_any n _ w hI h.2 (splitM_itoa n) (by simp only [List.length_nil]; omega)
theorem ofM_bdU (n : Int) (h0 : -9223372036854775808 ≤ n) (h1 : n ≤ 9223372036854775807) : (ofM n).digits.length ≤ 1000 ∧ -9223372036854775808 ≤ (ofM n).exp ∧ (ofM n).exp ≤ 9223372036854775807 :=
  numM_exp _ _ _ _ _ rfl (by simp) (by have := (decDigits_shortU n h0 h1).1; simp only [List.length_nil]; omega)
/-- a tree of a kind and a text alone -/
def leafT (k : Int) (t : Bs) : Vt := .mk k t ⟨none, 0, []⟩ none 0 []
theorem leafT_own (k : Int) (t : Bs) (B : Nat) (w : World) : (leafT k t).Own 25 9 B (fun _ => True) w :=
  .mk _ _ _ _ _ _ (World.ownsRow_nil _ _ _ _) (fun _ _ => trivial) (World.ownsRow_nil _ _ _ _) (fun _ _ => trivial) (fun i hi => absurd hi (Nat.not_lt_zero i))
theorem leafT_m (k : Int) (t : Bs) : (leafT k t).m = .mk k t [] [] := by unfold leafT; rw [Vt.m_mk]; rfl
theorem leafT_v (k : Int) (t : Bs) : (leafT k t).v = .agg #[.int .i64 k, .string (st t), .slice none 0 0, .slice none 0 0] := rfl
/-- a tree of a kind and a text is answered -/
def LeafPost (k : Int) (t : Bs) (w : World) (e : Ending) (w' : World) : Prop := e = .returned (leafT k t).v ∧ Below w.heap.size w w'
set_option maxHeartbeats 4000000 in
set_option maxRecDepth 1000000 in
theorem vOf_any (t : Bs) (w : World) : Calls Tryz.prog 27 #[.string (st t)] w (LeafPost 4 t w) := by
  have hb0 := below_alloc w (.cells #[.int .i64 4, .string (st t), .slice none 0 0, .slice none 0 0] 25)
  obtain ⟨r0, r1, r2, r3⟩ := four_cells (Whole.made w 25 #[.int .i64 4, .string (st t), .slice none 0 0, .slice none 0 0])
  have HV := hq (show LeafPost 4 t w (.returned (leafT 4 t).v) (w.alloc (.cells #[.int .i64 4, .string (st t), .slice none 0 0, .slice none 0 0] 25)) from ⟨rfl, hb0⟩)
  generalize LeafPost 4 t w = PP at *
  clear hb0
  go_enter Tryz.func27, Tryz.ntmps27
  go_wp2_with fail
  refine bodyPost_ret (v := (leafT 4 t).v) ?_ rfl HV.o
  simp [results, Tryz.results27, go_sem, r0, r1, r2, r3, leafT_v]
set_option maxHeartbeats 4000000 in
set_option maxRecDepth 1000000 in
theorem vNum_any (n : Int) (w : World) (hI : Its w) (h0 : -9223372036854775808 ≤ n) (h1 : n ≤ 9223372036854775807) : Calls Tryz.prog 47 #[.int .i64 n] w (LeafPost 3 (textM (ofM n)) w) := by
  have HOF := hq (fun V (hV : Below w.heap.size w V) => of_intU n h0 h1 V ((hI.grow hV) n h0 h1))
  have hbd := ofM_bdU n h0 h1
  have HP : Hq (∀ W', Below w.heap.size w W' → LeafPost 3 (textM (ofM n)) w (.returned (leafT 3 (textM (ofM n))).v) W') := hq (fun W' h => ⟨rfl, h⟩)
  unfold OfPost at HOF
  generalize LeafPost 3 (textM (ofM n)) w = PP at *
  generalize ofM n = d at *
  obtain ⟨neg, D, E⟩ := d
  simp only [Dec.val] at *
  have HTX := hq (fun V (hV : Below w.heap.size w V) => text_any neg D E V (by omega) (by omega) (fun _ => (hI.grow hV) E (by omega) (by omega)) (decDigits_shortV E (by omega) (by omega)))
  generalize textM ⟨neg, D, E⟩ = T at *
  have hb0 := below_alloc w (.cells #[.int .i64 0, .string ⟨#[]⟩, .slice none 0 0, .slice none 0 0] 25)
  have HW0 := hq (Whole.made w 25 #[.int .i64 0, .string ⟨#[]⟩, .slice none 0 0, .slice none 0 0])
  have HB0 := hq hb0
  clear hb0 hI
  go_enter Tryz.func47, Tryz.ntmps47
  go_upto_region 1 with fail
  generalize (w.alloc (.cells #[.int .i64 0, .string ⟨#[]⟩, .slice none 0 0, .slice none 0 0] 25)) = V0 at *
  go_wp2_with fail
  refine (HOF.o V0 HB0.o).mono ?_
  rintro e w2 ⟨rfl, hb2⟩
  have HB2 := hq (below_trans HB0.o hb2)
  have HW2 := hq (HW0.o.grow hb2)
  clear hb2 HOF
  go_wp2_with fail
  refine (HTX.o w2 HB2.o).mono ?_
  rintro e w3 ⟨rfl, hb3⟩
  have HW3 := hq (HW2.o.grow hb3)
  obtain ⟨r0, r1, r2, r3⟩ := four_cells HW3.o
  have f0 := HW3.o.free 0
  have f1 := HW3.o.free 1
  have f2 := HW3.o.free 2
  have f3 := HW3.o.free 3
  have HV := hq (fun a b c d => HP.o _ (below_put4 (below_trans HB2.o hb3) (Nat.le_refl _) a b c d))
  clear hb3 HTX HP
  go_wp2_with fail
  refine bodyPost_ret (v := (leafT 3 T).v) ?_ rfl (HV.o _ _ _ _)
  simp [results, Tryz.results47, go_sem, r0, r1, r2, r3, leafT_v]
/-- what Row and Map answer -/
def NodePost (v : Value) (w : World) (e : Ending) (w' : World) : Prop := e = .returned v ∧ Below w.heap.size w w'
set_option maxHeartbeats 4000000 in
set_option maxRecDepth 1000000 in
theorem vRow_any (o : Option Addr) (n c : Nat) (w : World) : Calls Tryz.prog 45 #[.slice o n c] w (NodePost (.agg #[.int .i64 5, .string ⟨#[]⟩, .slice none 0 0, .slice o n c]) w) := by
  have hb0 := below_alloc w (.cells #[.int .i64 5, .string ⟨#[]⟩, .slice none 0 0, .slice o n c] 25)
  obtain ⟨r0, r1, r2, r3⟩ := four_cells (Whole.made w 25 #[.int .i64 5, .string ⟨#[]⟩, .slice none 0 0, .slice o n c])
  have HV := hq (show NodePost (.agg #[.int .i64 5, .string ⟨#[]⟩, .slice none 0 0, .slice o n c]) w (.returned (.agg #[.int .i64 5, .string ⟨#[]⟩, .slice none 0 0, .slice o n c])) (w.alloc (.cells #[.int .i64 5, .string ⟨#[]⟩, .slice none 0 0, .slice o n c] 25)) from ⟨rfl, hb0⟩)
  generalize NodePost (.agg #[.int .i64 5, .string ⟨#[]⟩, .slice none 0 0, .slice o n c]) w = PP at *
  clear hb0
  go_enter Tryz.func45, Tryz.ntmps45
  go_wp2_with fail
  refine bodyPost_ret (v := .agg #[.int .i64 5, .string ⟨#[]⟩, .slice none 0 0, .slice o n c]) ?_ rfl HV.o
  simp [results, Tryz.results45, go_sem, r0, r1, r2, r3]
set_option maxHeartbeats 4000000 in
set_option maxRecDepth 1000000 in
theorem vMap_any (p : Option Addr) (m d : Nat) (o : Option Addr) (n c : Nat) (w : World) : Calls Tryz.prog 46 #[.slice p m d, .slice o n c] w (NodePost (.agg #[.int .i64 6, .string ⟨#[]⟩, .slice p m d, .slice o n c]) w) := by
  have hb0 := below_alloc w (.cells #[.int .i64 6, .string ⟨#[]⟩, .slice p m d, .slice o n c] 25)
  obtain ⟨r0, r1, r2, r3⟩ := four_cells (Whole.made w 25 #[.int .i64 6, .string ⟨#[]⟩, .slice p m d, .slice o n c])
  have HV := hq (show NodePost (.agg #[.int .i64 6, .string ⟨#[]⟩, .slice p m d, .slice o n c]) w (.returned (.agg #[.int .i64 6, .string ⟨#[]⟩, .slice p m d, .slice o n c])) (w.alloc (.cells #[.int .i64 6, .string ⟨#[]⟩, .slice p m d, .slice o n c] 25)) from ⟨rfl, hb0⟩)
  generalize NodePost (.agg #[.int .i64 6, .string ⟨#[]⟩, .slice p m d, .slice o n c]) w = PP at *
  clear hb0
  go_enter Tryz.func46, Tryz.ntmps46
  go_wp2_with fail
  refine bodyPost_ret (v := .agg #[.int .i64 6, .string ⟨#[]⟩, .slice p m d, .slice o n c]) ?_ rfl HV.o
  simp [results, Tryz.results46, go_sem, r0, r1, r2, r3]
end Go.Proofs.YtnlkokgekjlmmaaGreatDoor

namespace Go.Proofs.YtnlkokgekjlmmaaGreatDoor
open Go.RowKit

/-- the first place of a key -/
def ixOf : List Bs → Bs → Option Nat
  | [], _ => none
  | x :: l, k => if x = k then some 0 else (ixOf l k).map (· + 1)
theorem ixOf_some {k : Bs} : ∀ {l : List Bs} {i : Nat}, ixOf l k = some i → ∃ h : i < l.length, l[i] = k ∧ ∀ j (hj : j < i), l[j] ≠ k
  | [], i, h => by cases h
  | x :: l, i, h => by
    unfold ixOf at h
    by_cases e : x = k
    · rw [if_pos e] at h
      obtain rfl := Option.some.inj h
      exact ⟨by simp, by simpa using e, fun j hj => absurd hj (Nat.not_lt_zero _)⟩
    · rw [if_neg e] at h
      cases hi : ixOf l k with
      | none => rw [hi] at h; cases h
      | some m =>
        rw [hi] at h
        obtain rfl := Option.some.inj h
        obtain ⟨h1, h2, h3⟩ := ixOf_some hi
        refine ⟨by simpa using h1, by simpa using h2, fun j hj => ?_⟩
        cases j with
        | zero => simpa using e
        | succ j =>
          have hjm : j < m := by simp only at hj; omega
          simpa using h3 j hjm
theorem ixOf_none {k : Bs} : ∀ {l : List Bs}, ixOf l k = none → ∀ j (hj : j < l.length), l[j] ≠ k
  | [], _, j, hj => absurd hj (by simp)
  | x :: l, h, j, hj => by
    unfold ixOf at h
    by_cases e : x = k
    · rw [if_pos e] at h; cases h
    · rw [if_neg e] at h
      cases hi : ixOf l k with
      | some m => rw [hi] at h; cases h
      | none =>
        cases j with
        | zero => simpa using e
        | succ j => simpa using ixOf_none hi j (by simpa using hj)
def ixI (l : List Bs) (k : Bs) : Int := match ixOf l k with
  | some i => (i : Int)
  | none => -1
theorem index_any (ko : Option Addr) (kc : Nat) (kl : List Bs) (key : Bs) (V : World) (hkl : kl.length ≤ kc) (hkc : kc ≤ maxLen) (hin : StrsIn V ko kl) :
    Calls Tryz.prog 222 #[.slice ko kl.length kc, .string (st key)] V fun e w' => e = .returned (.int .i64 (ixI kl key)) ∧ w' = V := by
  unfold maxLen at hkc
  have hgd : ∀ j (hj : j < kl.length), (kl.map st).getD j ByteArray.empty = st kl[j] := fun j hj => by simp [hj]
  have hne : ∀ {a b : Bs}, a ≠ b → st a ≠ st b := fun h e => h (by
    have := congrArg (fun s : ByteArray => s.data.toList) e
    simpa [st_list] using this)
  rcases Nat.eq_zero_or_pos kl.length with h0 | hp
  · obtain rfl := List.length_eq_zero_iff.1 h0
    exact Tryz.slices_Index_string_empty ko kc (st key) V
  · obtain ⟨b, f, ho, _⟩ := hin 0 hp
    subst ho
    have hc : ∀ j, j < (kl.map st).length → V.cell? ⟨b, f + j, none⟩ = some (.string ((kl.map st).getD j ByteArray.empty)) := fun j hj => by
      rw [List.length_map] at hj
      obtain ⟨b', f', h1, h2⟩ := hin j hj
      injection h1 with h1
      injection h1 with hb hf
      subst hb hf
      rw [hgd j hj, h2]
    have h := Tryz.slices_Index_string b f kl.length kc (kl.map st) (st key) V (by rw [List.length_map]; exact Nat.le_refl _) (by omega) hc
    refine h.mono ?_
    rintro e w' ⟨rfl, h2⟩
    refine ⟨?_, h2⟩
    congr 2
    unfold ixI
    cases hi : ixOf kl key with
    | some i =>
      obtain ⟨h1, h3, h4⟩ := ixOf_some hi
      refine Lib.idxOfS_hit (kl.map st) kl.length i (st key) h1 (by rw [List.length_map]; exact Nat.le_refl _) ?_ (fun j hj => ?_)
      · rw [hgd i h1, h3]
      · rw [hgd j (by omega)]
        exact hne (h4 j hj)
    | none =>
      refine Lib.idxOfS_miss (kl.map st) kl.length (st key) (fun j hj => ?_)
      rw [hgd j hj]
      exact hne (ixOf_none hi j hj)
/-- a member -/
def getM (v : Vl) (key : Bs) : Option Vl := if openM v = true ∧ v.k = 6 then (match ixOf v.ks key with
  | some i => v.is[i]?
  | none => none) else none
def GetPost (r : Option Vl) (W : World) (e : Ending) (W' : World) : Prop := ∃ y : Vt, e = .returned (.tuple #[y.v, .bool r.isSome]) ∧ y.Own 25 9 W.heap.size (fun _ => True) W' ∧ y.m = r.getD zeroL ∧ Below W.heap.size W W'
end Go.Proofs.YtnlkokgekjlmmaaGreatDoor
