/-
  WALK: the law YscalarBack.
-/
import Derived.Test.YtkafjblfjdpdaaaGreatDoorYsP
import Derived.Test.YtkafjblfjdpdaaaGreatDoorPrU
namespace Go.Proofs.YtkafjblfjdpdaaaGreatDoor
open Go.RowKit
theorem rdOf_one {l : Bs} {u v : Vl} {a b : Int} (h1 : RdOf l u a) (h2 : RdOf l v b) : u = v ∧ a = b := by
  cases l with
  | nil => exact ⟨h1.1.trans h2.1.symm, h1.2.trans h2.2.symm⟩
  | cons c r =>
    unfold RdOf at h1 h2
    simp only at h1 h2
    split at h1
    · rename_i hc
      rw [if_pos hc] at h2
      exact ⟨h1.2.trans h2.2.symm, h1.1.trans h2.1.symm⟩
    · rename_i hc
      rw [if_neg hc] at h2
      split at h1
      · rename_i hd
        rw [if_pos hd] at h2
        cases hp : jparseM (st (c :: r)) with
        | inl q =>
          rw [hp] at h1 h2
          exact ⟨h1.1.trans h2.1.symm, h1.2.trans h2.2.symm⟩
        | inr ns =>
          rw [hp] at h1 h2
          exact ⟨(h1.2.one h2.2).1, h1.1.trans h2.1.symm⟩
      · rename_i hd
        rw [if_neg hd] at h2
        split at h1
        · rename_i hb
          rw [if_pos hb] at h2
          exact ⟨h1.1.trans h2.1.symm, h1.2.trans h2.2.symm⟩
        · rename_i hb
          rw [if_neg hb] at h2
          exact ⟨h1.1.trans h2.1.symm, h1.2.trans h2.2.symm⟩
theorem safe_len : ∀ (l : Bs) (p : UInt8), (safeL p l).length ≤ 6 * l.length
  | [], _ => Nat.le_refl _
  | c :: l, p => by
    have := safe_len l c
    rw [safeL, List.length_append, List.length_cons]
    split
    · simp only [List.length_cons, List.length_nil]; omega
    · split
      · simp only [List.length_cons, List.length_nil]; omega
      · simp only [List.length_cons, List.length_nil]; omega
theorem inQ_len (s : Bs) : (inQ s (qtB s)).length ≤ 36 * s.length + 20 := by
  unfold inQ
  split
  · unfold quotedM
    split
    · have := dblB_len s
      rw [st_list]
      simp only [List.length_append, List.length_cons, List.length_nil]
      omega
    · exact Nat.zero_le _
  · have h1 := safe_len (qtB s) 0
    have h2 := qtB_len s
    omega
theorem wkey_len (s : Bs) : (writeKeyL s).1.length ≤ 36 * s.length + 20 := by
  unfold writeKeyL
  split
  · simp only
    split
    · omega
    · exact inQ_len s
  · exact Nat.zero_le _
theorem few_priY {x : Vt} {w : World} {n : Nat} (hok : x.Ok w) (h : FewV x.m n) (hn : n ≤ 1000000) : Pri x w := ⟨few_fine hok h hn, h.sh⟩
set_option maxHeartbeats 32000000 in
set_option maxRecDepth 1000000 in
theorem yback_law (x : Vt) (s : ByteArray) (w : World) (hE : Env w) (hm : mx w) (_hs : s.size ≤ maxLen) (hx : x.Ok w) : Calls Tryz.prog 5 #[x.v, .string s] w (BPost true w) := by
  have hst : st s.data.toList = s := ba_ext (by simp)
  have hrg := hx.rng
  have HSM : Hq (∀ V, Below w.heap.size w V → Calls Tryz.prog 8 #[] V (fun e W' => e = .returned (.bool true) ∧ Below V.heap.size V W')) := hq (fun V h => small11_any V (hE.grow h) (mx_grow hm h))
  have HFX := hq (fun V (hV : Below w.heap.size w V) => few1_any x 300 V (hx.grow hV) (by decide))
  have hpr : ∀ (hf : FewV x.m 300) V (hV : Below w.heap.size w V), Pri x V := fun hf V hV => few_priY (hx.grow hV) hf (by decide)
  have HWR := hq (fun (hf : FewV x.m 300) V (hV : Below w.heap.size w V) => ywrite_any x V (hE.grow hV) (mx_grow hm hV) (hpr hf V hV))
  have HRI := hq (fun (hf : FewV x.m 300) V (hV : Below w.heap.size w V) => vright_any x V (hE.grow hV) (hx.grow hV) (hpr hf V hV).fine.lim (by have := (hpr hf V hV).fine.sz; omega))
  have HRD := hq (fun (hr : rightM x.m = true) (hl : (writeL x.m).1.length ≤ 65536) V (hV : Below w.heap.size w V) => (show Calls Tryz.prog 9 #[.string (st (writeL x.m).1)] V fun e W' => ∃ y : Vt, e = .returned (.tuple #[y.v, .int .i64 0]) ∧ IsVR x.m y.v W' ∧ Below V.heap.size V W' from by
    have := yreadV_any (st (writeL x.m).1) V (hE.grow hV) (by rw [st_size]; omega)
    rw [st_list] at this
    refine this.mono ?_
    rintro e W' ⟨y, u, er, h1, rfl, h2, h3, h4⟩
    obtain ⟨rfl, rfl⟩ := rdOf_one h1 (write_read hr hl).2
    exact ⟨y, rfl, ⟨y, rfl, h2.ok (by rw [h3]; exact hrg), h3⟩, h4⟩))
  have HXI := hq (fun V (hV : Below w.heap.size w V) => (show IsVR x.m x.v V from ⟨x, rfl, hx.grow hV, rfl⟩))
  have HW0 : Hq (rightM x.m = true → (writeL x.m).2 = 0) := hq (fun h => by unfold writeL; rw [if_pos h])
  have HW1 : Hq (rightM x.m = false → writeL x.m = ([], 1)) := hq (fun h => by unfold writeL; rw [if_neg (by rw [h]; decide)])
  have HWK := hq (fun (h4 : s.size ≤ 2048) V (hV : Below w.heap.size w V) => ywkey_any s V (hE.grow hV).tab (mx_grow hm hV) (by omega))
  have HVA := hq (fun (h4 : s.size ≤ 2048) V (hV : Below w.heap.size w V) => valid_any s V (hE.grow hV).tab (by unfold maxLen; omega))
  have HK0 : Hq ((valid s).2 = true → (writeKeyL s.data.toList).2 = 0) := hq (fun h => (key_write (s := s.data.toList) (by rw [hst]; exact h)).1)
  have HK1 : Hq ((valid s).2 = false → writeKeyL s.data.toList = ([], 2)) := hq (fun h => by unfold writeKeyL; rw [hst, if_neg (by rw [h]; decide)])
  have HKY := hq (fun (h4 : s.size ≤ 2048) (hv : (valid s).2 = true) (hl : (writeKeyL s.data.toList).1.length ≤ 1099511627776) V (hV : Below w.heap.size w V) => (show Calls Tryz.prog 13 #[.string (st (writeKeyL s.data.toList).1)] V (StrPost (s.data.toList, 0) V) from by
    have := ykeyR_any (st (writeKeyL s.data.toList).1) V (hE.grow hV).tab (by rw [st_size]; exact hl)
    rwa [st_list, (key_write (s := s.data.toList) (by rw [hst]; exact hv)).2] at this))
  have HKL : Hq (s.size ≤ 2048 → (valid s).2 = true → (writeKeyL s.data.toList).1.length ≤ 1099511627776) := hq (fun h4 _ => by
    have := wkey_len s.data.toList
    have hl : s.data.toList.length = s.size := Array.length_toList
    omega)
  have HFI : Hq (∀ W', Below w.heap.size w W' → BPost true w (.returned (.bool true)) W') := hq (fun W' h => ⟨rfl, h⟩)
  generalize BPost true w = PP at *
  unfold StrPost at HKY HWK
  simp only [hst] at HKY
  unfold TextP at HWR
  unfold BPost at HRI
  generalize writeL x.m = WL at *
  obtain ⟨wb, we⟩ := WL
  generalize writeKeyL s.data.toList = KL at *
  obtain ⟨kb, ke⟩ := KL
  generalize valid s = VA at *
  obtain ⟨vp, vo⟩ := VA
  simp only at HKY HWK HWR HRI HW0 HW1 HK0 HK1 HVA HRD HKL
  clear hE hm hx hpr hst hrg
  obtain ⟨k, t, ⟨ko, kc, kl⟩, o, c, is⟩ := x
  rw [Vt.v_mk'] at *
  generalize (Vt.mk k t ⟨ko, kc, kl⟩ o c is).m = M at *
  have HB0 := hq (below_alloc w (.cells #[.int .i64 k, .string (st t), .slice ko kl.length kc, .slice o is.length c] 26))
  have HC0 := hq (Whole.made w 26 #[.int .i64 k, .string (st t), .slice ko kl.length kc, .slice o is.length c])
  go_enter Tryz.func5, Tryz.ntmps5
  go_upto_region 1 with fail
  generalize w.heap.size = g at HC0
  generalize (w.alloc (.cells #[.int .i64 k, .string (st t), .slice ko kl.length kc, .slice o is.length c] 26)) = V0 at *
  have hVC := hq (fun wr (hb : Below V0.heap.size V0 wr) => HC0.o.grow hb)
  clear HC0
  have HV0 := hq (Below.refl V0.heap.size V0)
  go_wp2_with fail
  refine (HSM.o V0 HB0.o).mono ?_
  rintro e w1 ⟨rfl, hb⟩
  have HV1 := hq (below_trans HV0.o hb)
  have HB1 := hq (below_trans HB0.o hb)
  clear hb HV0 HB0 HSM
  obtain ⟨a0, a1, a2, a3⟩ := four_cells (hVC.o w1 HV1.o)
  go_wp2_with fail
  refine (HFX.o w1 HB1.o).mono ?_
  rintro e w2 ⟨fx, rfl, hfx, hb⟩
  have HV2 := hq (below_trans HV1.o hb)
  have HB2 := hq (below_trans HB1.o hb)
  have HHX := hq hfx
  clear hb HV1 HB1 a0 a1 a2 a3 HFX hfx
  cases fx with
  | false =>
    have HV := hq (HFI.o w2 HB2.o)
    clear HFI HWR HRI HRD HXI HW0 HW1 HWK HVA HK0 HK1 HKY HKL HHX
    go_wp2_with fail
    first | exact HV.o | (go_ret; exact HV.o)
  | true =>
  by_cases hz : 2048 < s.size
  · have hz1 : (2048 : Int) < (s.size : Int) := by omega
    have HV := hq (HFI.o w2 HB2.o)
    clear HFI HWR HRI HRD HXI HW0 HW1 HWK HVA HK0 HK1 HKY HKL HHX
    go_wp2_with fail
    first | exact HV.o | (go_ret; exact HV.o)
  have hz1 : ¬ (2048 : Int) < (s.size : Int) := by omega
  have HF := hq (HHX.o rfl)
  have hz2 : s.size ≤ 2048 := by omega
  have HWR' := hq (HWR.o HF.o)
  have HRI' := hq (HRI.o HF.o)
  have HWK' := hq (HWK.o hz2)
  have HVA' := hq (HVA.o hz2)
  have HKY' := hq (HKY.o hz2)
  have HKL' := hq (HKL.o hz2)
  clear HHX HF HWR HRI HWK HVA HKY HKL hz hz2
  obtain ⟨a0, a1, a2, a3⟩ := four_cells (hVC.o w2 HV2.o)
  go_wp2_with fail
  refine (HWR'.o w2 HB2.o).mono ?_
  rintro e w3 ⟨rfl, hb⟩
  have HV3 := hq (below_trans HV2.o hb)
  have HB3 := hq (below_trans HB2.o hb)
  clear hb HV2 HB2 a0 a1 a2 a3 HWR'
  obtain ⟨a0, a1, a2, a3⟩ := four_cells (hVC.o w3 HV3.o)
  cases hr : rightM M with
  | false =>
    have hwl := HW1.o hr
    injection hwl with hw1 hw2
    subst hw1 hw2
    rw [hr] at HRI'
    clear HW0 HW1 HRD HXI hr
    go_wp2_with fail
    refine (HRI'.o w3 HB3.o).mono ?_
    rintro e w4 ⟨rfl, hb⟩
    have HB4 := hq (below_trans HB3.o hb)
    clear hb HB3 a0 a1 a2 a3 HRI' HV3 hVC
    go_wp2_with fail
    refine (HWK'.o w4 HB4.o).mono ?_
    rintro e w8 ⟨rfl, hb⟩
    have HB8 := hq (below_trans HB4.o hb)
    clear hb HB4 HWK'
    go_wp2_with fail
    refine (HVA'.o w8 HB8.o).mono ?_
    rintro e w9 ⟨rfl, hb⟩
    have HB9 := hq (below_trans HB8.o hb)
    clear hb HB8 HVA'
    cases vo with
    | false =>
      have hk := HK1.o rfl
      injection hk with hk1 hk2
      subst hk1 hk2
      have HV := hq (HFI.o w9 HB9.o)
      clear HFI HK0 HK1 HKY' HKL'
      go_wp2_with fail
      first | exact HV.o | (go_ret; exact HV.o)
    | true =>
      have hk2 := HK0.o rfl
      subst hk2
      have HKX := hq (HKY'.o rfl (HKL'.o rfl))
      have hse : (s.toList == s.toList) = true := beq_self_eq_true _
      clear HK0 HK1 HKY' HKL'
      go_wp2_with fail
      refine (HKX.o w9 HB9.o).mono ?_
      rintro e w10 ⟨rfl, hb⟩
      have HV := hq (HFI.o w10 (below_trans HB9.o hb))
      clear hb HB9 HKX HFI
      go_wp2_with fail
      first | exact HV.o | (go_ret; exact HV.o)
  | true =>
    have hw2 := HW0.o hr
    subst hw2
    rw [hr] at HRI'
    have HRD' := hq (HRD.o hr)
    clear HW0 HW1 HRD hr
    go_wp2_with fail
    refine (HRI'.o w3 HB3.o).mono ?_
    rintro e w4 ⟨rfl, hb⟩
    have HV4 := hq (below_trans HV3.o hb)
    have HB4 := hq (below_trans HB3.o hb)
    clear hb HV3 HB3 a0 a1 a2 a3 HRI'
    by_cases hl : wb.length ≤ 65536
    · have hl1 : (wb.length : Int) ≤ 65536 := by omega
      have HRX := hq (HRD'.o hl)
      clear HRD' hl
      go_wp2_with fail
      refine (HRX.o w4 HB4.o).mono ?_
      rintro e w5 ⟨y, rfl, hy5, hb⟩
      obtain ⟨yk, yt, ⟨yko, ykc, ykl⟩, yo, yc, yis⟩ := y
      rw [Vt.v_mk'] at hy5 ⊢
      go_upto_region 10 with fail
      have hb6 := below_alloc w5 (.cells #[.int .i64 yk, .string (st yt), .slice yko ykl.length ykc, .slice yo yis.length yc] 26)
      have HV6 := hq (below_trans (below_trans HV4.o hb) hb6)
      have HB6 := hq (below_trans (below_trans HB4.o hb) hb6)
      have HY6 := hq (Whole.made w5 26 #[.int .i64 yk, .string (st yt), .slice yko ykl.length ykc, .slice yo yis.length yc])
      have hye := hy5.growR hb6
      clear hb hb6 HV4 HB4 hy5 HRX
      generalize (w5.alloc (.cells #[.int .i64 yk, .string (st yt), .slice yko ykl.length ykc, .slice yo yis.length yc] 26)) = w6 at *
      generalize w5.heap.size = g9 at *
      obtain ⟨a0, a1, a2, a3⟩ := four_cells (hVC.o w6 HV6.o)
      obtain ⟨b0, b1, b2, b3⟩ := four_cells HY6.o
      have HEQ := hq (equalVR_any (r := true) (HXI.o w6 HB6.o) hye ⟨fun _ => rfl, fun _ => rfl⟩)
      clear hye HXI HV6 HY6 hVC
      go_wp2_with fail
      refine HEQ.o.mono ?_
      rintro e w7 ⟨rfl, hb⟩
      have HB4 := hq (below_trans HB6.o hb)
      clear hb HB6 a0 a1 a2 a3 b0 b1 b2 b3 HEQ
      generalize w7 = w4 at *
      go_wp2_with fail
      refine (HWK'.o w4 HB4.o).mono ?_
      rintro e w8 ⟨rfl, hb⟩
      have HB8 := hq (below_trans HB4.o hb)
      clear hb HB4 HWK'
      go_wp2_with fail
      refine (HVA'.o w8 HB8.o).mono ?_
      rintro e w9 ⟨rfl, hb⟩
      have HB9 := hq (below_trans HB8.o hb)
      clear hb HB8 HVA'
      cases vo with
      | false =>
        have hk := HK1.o rfl
        injection hk with hk1 hk2
        subst hk1 hk2
        have HV := hq (HFI.o w9 HB9.o)
        clear HFI HK0 HK1 HKY' HKL'
        go_wp2_with fail
        first | exact HV.o | (go_ret; exact HV.o)
      | true =>
        have hk2 := HK0.o rfl
        subst hk2
        have HKX := hq (HKY'.o rfl (HKL'.o rfl))
        have hse : (s.toList == s.toList) = true := beq_self_eq_true _
        clear HK0 HK1 HKY' HKL'
        go_wp2_with fail
        refine (HKX.o w9 HB9.o).mono ?_
        rintro e w10 ⟨rfl, hb⟩
        have HV := hq (HFI.o w10 (below_trans HB9.o hb))
        clear hb HB9 HKX HFI
        go_wp2_with fail
        first | exact HV.o | (go_ret; exact HV.o)
    · have hl1 : ¬ (wb.length : Int) ≤ 65536 := by omega
      clear HRD' hl HXI HV4 hVC
      go_wp2_with fail
      refine (HWK'.o w4 HB4.o).mono ?_
      rintro e w8 ⟨rfl, hb⟩
      have HB8 := hq (below_trans HB4.o hb)
      clear hb HB4 HWK'
      go_wp2_with fail
      refine (HVA'.o w8 HB8.o).mono ?_
      rintro e w9 ⟨rfl, hb⟩
      have HB9 := hq (below_trans HB8.o hb)
      clear hb HB8 HVA'
      cases vo with
      | false =>
        have hk := HK1.o rfl
        injection hk with hk1 hk2
        subst hk1 hk2
        have HV := hq (HFI.o w9 HB9.o)
        clear HFI HK0 HK1 HKY' HKL'
        go_wp2_with fail
        first | exact HV.o | (go_ret; exact HV.o)
      | true =>
        have hk2 := HK0.o rfl
        subst hk2
        have HKX := hq (HKY'.o rfl (HKL'.o rfl))
        have hse : (s.toList == s.toList) = true := beq_self_eq_true _
        clear HK0 HK1 HKY' HKL'
        go_wp2_with fail
        refine (HKX.o w9 HB9.o).mono ?_
        rintro e w10 ⟨rfl, hb⟩
        have HV := hq (HFI.o w10 (below_trans HB9.o hb))
        clear hb HB9 HKX HFI
        go_wp2_with fail
        first | exact HV.o | (go_ret; exact HV.o)
end Go.Proofs.YtkafjblfjdpdaaaGreatDoor

