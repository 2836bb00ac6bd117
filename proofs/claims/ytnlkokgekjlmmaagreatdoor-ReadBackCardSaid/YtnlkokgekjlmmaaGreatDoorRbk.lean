/-
  WALK: the law ReadBack.
-/
import Derived.Test.YtnlkokgekjlmmaaGreatDoorRdW
import Derived.Test.YtnlkokgekjlmmaaGreatDoorRdK
import Derived.Test.YtnlkokgekjlmmaaGreatDoorPrK
import Derived.Test.YtnlkokgekjlmmaaGreatDoorPrF
import Derived.Test.YtnlkokgekjlmmaaGreatDoorVuL
namespace Go.Proofs.YtnlkokgekjlmmaaGreatDoor
open Go.RowKit
theorem i64_and7 (n : Int) : bits .and .i64 n 7 = n % 8 := by
  have h63 : (BitVec.ofInt 64 7).toNat = 2 ^ 3 - 1 := by decide
  have key : (BitVec.ofInt 64 n &&& BitVec.ofInt 64 7).toNat = (n % ((2 ^ 64 : Nat) : Int)).toNat % 2 ^ 3 := by
    rw [BitVec.toNat_and, BitVec.toNat_ofInt, h63, Nat.and_two_pow_sub_one_eq_mod]
  show IntKind.i64.wrap ((BitVec.ofInt 64 n &&& BitVec.ofInt 64 7).toNat : Nat) = n % 8
  rw [key, IntKind.wrap_i64]
  omega
theorem reads_right (s : ByteArray) (w V : World) (hE : Env w) (hV : Below w.heap.size w V) (hs : s.size ≤ 4096) :
    Calls Tryz.prog 31 #[.string s] V fun e W' => ∃ (y : Vt) (n er : Int), e = .returned (.tuple #[y.v, .int .i64 n, .int .i64 er]) ∧ (y.Ok W' ∧ (er = 0 → Fine y W' ∧ rightM y.m = true) ∧ (er ≠ 0 → y.m.k = 0)) ∧ Below V.heap.size V W' :=
  (readRead_any s V (hE.grow hV) (by unfold maxLen; omega)).mono fun e W' h => by
    unfold RReadPost at h
    cases hp : jparseM s with
    | inl q =>
      obtain ⟨wh, er⟩ := q
      rw [hp] at h
      have her := jparseM_er hp
      exact ⟨.mk 0 [] ⟨none, 0, []⟩ none 0 [], _, _, h.1, ⟨(leaf_own (tV := 25) (tS := 9) 0 [] 0 W').ok (by rw [Vt.m_mk]; exact rng_small (by kernel_rfl)), fun h => absurd h her, fun _ => by rw [Vt.m_mk]; rfl⟩, h.2⟩
    | inr ns =>
      rw [hp] at h
      obtain ⟨y, v, h1, h2, h3, h4, h5⟩ := h
      have hn := parsed_nodes hp hs
      have hok := h3.ok (by rw [h4]; exact h1.rng (parsed_size hp))
      exact ⟨y, _, _, h2, ⟨hok, fun _ => ⟨⟨hok, by rw [h4]; exact h1.lim (parsed_size hp), by rw [h4, (rv_right h1 hn).2.1]; omega⟩, by rw [h4]; exact (read_right h1 hn).1⟩, fun h => absurd rfl h⟩, h5⟩
theorem reads_back {v : Vl} (h : rightM v = true) (ls : Bool) (n lev : Nat) (w V : World) (hE : Env w) (hV : Below w.heap.size w V) (hs : (prB ls n lev v).length ≤ 65536) :
    Calls Tryz.prog 31 #[.string (st (prB ls n lev v))] V fun e W' => ∃ y : Vt, e = .returned (.tuple #[y.v, .int .i64 ((prB ls n lev v).length : Int), .int .i64 0]) ∧ (y.Ok W' ∧ y.m = v) ∧ Below V.heap.size V W' :=
  (readRead_any _ V (hE.grow hV) (by rw [st_size]; unfold maxLen; omega)).mono fun e W' h0 => by
    obtain ⟨ns, hp, hv⟩ := print_read h ls n lev hs
    unfold RReadPost at h0
    rw [hp] at h0
    obtain ⟨y, u, h1, h2, h3, h4, h5⟩ := h0
    obtain ⟨rfl, _⟩ := h1.one hv
    rw [st_size] at h2
    exact ⟨y, h2, ⟨h3.ok (by rw [h4]; exact hv.rng (parsed_size hp)), h4⟩, h5⟩
theorem few_priB {x : Vt} {w : World} {n : Nat} (hok : x.Ok w) (h : FewV x.m n) (hn : n ≤ 1000000) : Pri x w := ⟨few_fine hok h hn, h.sh⟩
def RB16 (vx va vb vd : Value) (m : Vl) (i : Nat) (v : Value) (_ _ : Nat) (W : World) : Prop := match i with
  | 2 => v = .int .i64 0
  | 6 => v = .int .i64 0
  | 10 => v = .int .i64 0
  | 14 => v = .int .i64 0
  | 18 => v = .int .i64 0
  | 22 => v = va
  | 23 => v = vx
  | 27 => v = vb
  | 28 => v = vx
  | 29 => IsVR m v W
  | 33 => v = vd
  | 34 => v = vx
  | _ => v = .bool true
set_option maxHeartbeats 32000000 in
set_option maxRecDepth 1000000 in
theorem rback_law (s : ByteArray) (x : Vt) (i : Int) (w : World) (hE : Env w) (hs : s.size ≤ maxLen) (hx : x.Ok w) : Calls Tryz.prog 10 #[.string s, x.v, .int .i64 i] w (BPost true w) := by
  have HSM : Hq (∀ V, Below w.heap.size w V → Calls Tryz.prog 29 #[] V (fun e W' => e = .returned (.bool true) ∧ Below V.heap.size V W')) := hq (fun V h => small9_any V (hE.grow h))
  have HFX := hq (fun V (hV : Below w.heap.size w V) => few1_any x 300 V (hx.grow hV) (by decide))
  have hpr : ∀ (hf : FewV x.m 300) V (hV : Below w.heap.size w V), Pri x V := fun hf V hV => few_priB (hx.grow hV) hf (by decide)
  obtain ⟨i7, hi7, hi8⟩ : ∃ j : Nat, bits .and .i64 i 7 = (j : Int) ∧ j ≤ 8 := ⟨(i % 8).toNat, by rw [i64_and7]; omega, by omega⟩
  have HC1 := hq (fun (hf : FewV x.m 300) V (hV : Below w.heap.size w V) => pcompact x V (hE.grow hV) (hpr hf V hV))
  have HC2 := hq (fun (hf : FewV x.m 300) V (hV : Below w.heap.size w V) => pcanon x V (hE.grow hV) (hpr hf V hV))
  have HC3 := hq (fun (hf : FewV x.m 300) V (hV : Below w.heap.size w V) => ppretty x (i7 : Int) 0 V (hE.grow hV) (hpr hf V hV))
  have HSO := hq (fun (hf : FewV x.m 300) V (hV : Below w.heap.size w V) => (vSorted_any x V (hE.grow hV) (hpr hf V hV).fine).mono (R' := fun e W' => ∃ y : Vt, e = .returned y.v ∧ (y.Own 25 9 V.heap.size (fun _ => True) W' ∧ y.m = sortM x.m) ∧ Below V.heap.size V W') (fun e W' ⟨y, h1, h2, h3, h4⟩ => ⟨y, h1, ⟨h2, h3⟩, h4⟩))
  have HSP := hq (fun (hf : FewV x.m 300) (y : Vt) V W (hV : Below w.heap.size w V) (ho : y.Own 25 9 V.heap.size (fun _ => True) W) (hm : y.m = sortM x.m) => (sortM_pri (hpr hf V hV) ho hm).fine.ok)
  have HXI := hq (fun V (hV : Below w.heap.size w V) => (show IsVR x.m x.v V from ⟨x, rfl, hx.grow hV, rfl⟩))
  have HRI := hq (fun (y : Vt) V (hV : Below w.heap.size w V) (hf : Fine y V) (hr : rightM y.m = true) => (vright_any y V (hE.grow hV) hf.ok hf.lim (by have := hf.sz; omega)).mono (R' := fun e W' => e = .returned (.bool true) ∧ Below V.heap.size V W') (fun e W' h => by rw [hr] at h; exact h))
  have HCL := hq (canon_len x.m)
  have hsm : rightM (sortM x.m) = rightM x.m := sortM_right x.m
  have HCM : Hq (rightM x.m = true → compactM x.m = (prB false 0 0 x.m, 0) ∧ compactM (sortM x.m) = (prB false 0 0 (sortM x.m), 0) ∧ prettyM x.m (i7 : Int) 0 = (prB true i7 0 x.m, 0)) := hq (fun h => ⟨if_pos h, if_pos (by rw [hsm]; exact h), by unfold prettyM; rw [if_pos ⟨h, by omega, by omega, by omega, by omega⟩]; rfl⟩)
  have HNO : Hq (rightM x.m = false → compactM x.m = ([], 1) ∧ compactM (sortM x.m) = ([], 1) ∧ prettyM x.m (i7 : Int) 0 = ([], 1)) := hq (fun h => ⟨if_neg (by rw [h]; decide), if_neg (by rw [hsm, h]; decide), by unfold prettyM; rw [if_neg (fun h2 => by rw [h] at h2; cases h2.1)]⟩)
  have HBA := hq (fun (hr : rightM x.m = true) V (hV : Below w.heap.size w V) (hz : (prB false 0 0 x.m).length ≤ 65536) => reads_back hr false 0 0 w V hE hV hz)
  have HBB := hq (fun (hr : rightM x.m = true) V (hV : Below w.heap.size w V) (hz : (prB false 0 0 (sortM x.m)).length ≤ 65536) => reads_back (hsm.trans hr) false 0 0 w V hE hV hz)
  have HBD := hq (fun (hr : rightM x.m = true) V (hV : Below w.heap.size w V) (hz : (prB true i7 0 x.m).length ≤ 65536) => reads_back hr true i7 0 w V hE hV hz)
  have HFI : Hq (∀ W', Below w.heap.size w W' → BPost true w (.returned (.bool true)) W') := hq (fun W' h => ⟨rfl, h⟩)
  generalize BPost true w = PP at *
  have HRS := hq (fun (h4 : s.size ≤ 4096) V (hV : Below w.heap.size w V) => reads_right s w V hE hV h4)
  unfold maxLen at hs
  clear hE hx hpr hsm
  obtain ⟨k, t, ⟨ko, kc, kl⟩, o, c, is⟩ := x
  rw [Vt.v_mk'] at *
  generalize (Vt.mk k t ⟨ko, kc, kl⟩ o c is).m = M at *
  have HB0 := hq (below_alloc w (.cells #[.int .i64 k, .string (st t), .slice ko kl.length kc, .slice o is.length c] 25))
  have HW0 := hq (Whole.made w 25 #[.int .i64 k, .string (st t), .slice ko kl.length kc, .slice o is.length c])
  go_enter Tryz.func10, Tryz.ntmps10
  go_upto_region 1 with fail
  generalize w.heap.size = g at HW0
  generalize (w.alloc (.cells #[.int .i64 k, .string (st t), .slice ko kl.length kc, .slice o is.length c] 25)) = V0 at *
  have hVC := hq (fun wr (hb : Below V0.heap.size V0 wr) => HW0.o.grow hb)
  clear HW0
  have HV0 := hq (Below.refl V0.heap.size V0)
  go_wp2_with fail
  refine (HSM.o V0 HB0.o).mono ?_
  rintro e w1 ⟨rfl, hb⟩
  have HV1 := hq (below_trans HV0.o hb)
  have HB1 := hq (below_trans HB0.o hb)
  clear hb HV0 HB0 HSM
  obtain ⟨a0, a1, a2, a3⟩ := four_cells (hVC.o w1 HV1.o)
  go_wp2_with fail
  refine (HFX.o w1 HB1.o).mono ?_
  rintro e w2 ⟨fx, rfl, hfx, hb⟩
  have HV2 := hq (below_trans HV1.o hb)
  have HB2 := hq (below_trans HB1.o hb)
  have HHX := hq hfx
  clear hb HV1 HB1 a0 a1 a2 a3 HFX hfx
  by_cases hz : 4096 < s.size
  · have hz1 : (4096 : Int) < (s.size : Int) := by omega
    have HV := hq (HFI.o w2 HB2.o)
    clear HFI HC1 HC2 HC3 HSO HSP HXI HRI HCL HCM HNO HBA HBB HBD HRS
    go_wp2_with fail
    first | exact HV.o | (go_ret; exact HV.o)
  have hz1 : ¬ (4096 : Int) < (s.size : Int) := by omega
  have HRS' := hq (HRS.o (by omega))
  clear HRS hz
  cases fx with
  | false =>
    have HV := hq (HFI.o w2 HB2.o)
    clear HFI HC1 HC2 HC3 HSO HSP HXI HRI HCL HCM HNO HBA HBB HBD HRS'
    go_wp2_with fail
    first | exact HV.o | (go_ret; exact HV.o)
  | true =>
  have HF := hq (HHX.o rfl)
  clear HHX
  have HC1' := hq (HC1.o HF.o)
  have HC2' := hq (HC2.o HF.o)
  have HC3' := hq (HC3.o HF.o)
  have HSO' := hq (HSO.o HF.o)
  have HSP' := hq (HSP.o HF.o)
  clear HC1 HC2 HC3 HSO HSP HF
  unfold TextP at HC1' HC2' HC3'
  go_wp2_with fail
  refine (HRS'.o w2 HB2.o).mono ?_
  rintro e w3 ⟨y, yn, er, rfl, ⟨hyo, hyf, hyk⟩, hb⟩
  have HYF := hq hyf
  have HYK := hq hyk
  have HRI' := hq (HRI.o y)
  clear hyo hyf hyk HRI HRS'
  obtain ⟨yk, yt, ⟨yko, ykc, ykl⟩, yo, yc, yis⟩ := y
  rw [Vt.v_mk'] at *
  rw [Vt.m_mk] at HYF HYK HRI'
  have hba := below_alloc w3 (.cells #[.int .i64 yk, .string (st yt), .slice yko ykl.length ykc, .slice yo yis.length yc] 25)
  have HV4 := hq (below_trans (below_trans HV2.o hb) hba)
  have HB4 := hq (below_trans (below_trans HB2.o hb) hba)
  have HW4 := hq (Whole.made w3 25 #[.int .i64 yk, .string (st yt), .slice yko ykl.length ykc, .slice yo yis.length yc])
  have HYF4 := hq (fun h => (HYF.o h).1.grow hba)
  clear hb HV2 HB2
  go_upto_region 6 with fail
  generalize (w3.alloc (.cells #[.int .i64 yk, .string (st yt), .slice yko ykl.length ykc, .slice yo yis.length yc] 25)) = w4 at *
  generalize w3.heap.size = g9 at *
  obtain ⟨y0, y1, y2, y3⟩ := four_cells HW4.o
  by_cases h0 : er = 0
  · subst h0
    have HC := HRI'.o w4 HB4.o (HYF4.o rfl) (HYF.o rfl).2
    clear HRI' HYF HYF4 HYK hba
    go_wp2_with fail
    refine HC.mono ?_
    rintro e w5 ⟨rfl, hb⟩
    have HVA := hq (below_trans HV4.o hb)
    have HBA5 := hq (below_trans HB4.o hb)
    clear hb HV4 HB4 HW4 HC y0 y1 y2 y3
    obtain ⟨a0, a1, a2, a3⟩ := four_cells (hVC.o w5 HVA.o)
    go_wp2_with fail
    refine (HC1'.o w5 HBA5.o).mono ?_
    rintro e w6 ⟨rfl, hb⟩
    have HV6 := hq (below_trans HVA.o hb)
    have HB6 := hq (below_trans HBA5.o hb)
    clear hb HVA HBA5 a0 a1 a2 a3 HC1'
    obtain ⟨a0, a1, a2, a3⟩ := four_cells (hVC.o w6 HV6.o)
    go_wp2_with fail
    refine (HC2'.o w6 HB6.o).mono ?_
    rintro e w7 ⟨rfl, hb⟩
    have HV7 := hq (below_trans HV6.o hb)
    have HB7 := hq (below_trans HB6.o hb)
    clear hb HV6 HB6 a0 a1 a2 a3 HC2'
    obtain ⟨a0, a1, a2, a3⟩ := four_cells (hVC.o w7 HV7.o)
    go_wp2_with fail
    refine (HC3'.o w7 HB7.o).mono ?_
    rintro e w8 ⟨rfl, hb⟩
    have HV8 := hq (below_trans HV7.o hb)
    have HB8 := hq (below_trans HB7.o hb)
    clear hb HV7 HB7 a0 a1 a2 a3 HC3'
    cases hrt : rightM M with
    | false =>
      obtain ⟨q1, q2, q3⟩ := HNO.o hrt
      rw [q1, q2, q3]
      have HV := hq (HFI.o w8 HB8.o)
      clear HFI HSO' HSP' HXI HCL HCM HNO HBA HBB HBD hVC HV8 q1 q2 q3 hrt
      go_wp2_with fail
      first | exact HV.o | (go_ret; exact HV.o)
    | true =>
      obtain ⟨q1, q2, q3⟩ := HCM.o hrt
      have hcl := HCL.o.1
      rw [q1, q2] at hcl
      rw [q1, q2, q3]
      have HBA' := hq (HBA.o hrt)
      have HBB' := hq (HBB.o hrt)
      have HBD' := hq (HBD.o hrt)
      simp only at hcl
      clear q1 q2 q3 hrt HCL HCM HNO HBA HBB HBD
      generalize hSM : sortM M = SM at *
      clear hSM
      generalize prB false 0 0 M = ta at *
      generalize prB false 0 0 SM = tb at *
      generalize prB true i7 0 M = td at *
      by_cases hcd : 65536 < td.length
      · have hcz : (65536 : Int) < (td.length : Int) := by omega
        have HV := hq (HFI.o w8 HB8.o)
        clear HFI HSO' HSP' HXI HBA' HBB' HBD' hVC HV8
        go_wp2_with fail
        first | exact HV.o | (go_ret; exact HV.o)
      have hcz : ¬ (65536 : Int) < (td.length : Int) := by omega
      by_cases had : 65536 < ta.length
      · have haz : (65536 : Int) < (ta.length : Int) := by omega
        have HV := hq (HFI.o w8 HB8.o)
        clear HFI HSO' HSP' HXI HBA' HBB' HBD' hVC HV8
        go_wp2_with fail
        first | exact HV.o | (go_ret; exact HV.o)
      have haz : ¬ (65536 : Int) < (ta.length : Int) := by omega
      have hta : ta.length ≤ 65536 := by omega
      have htb : tb.length ≤ 65536 := by omega
      have htd : td.length ≤ 65536 := by omega
      go_wp2_with fail
      refine (HBA'.o w8 HB8.o hta).mono ?_
      rintro e w9 ⟨a, rfl, ⟨hao, ham⟩, hb⟩
      have HAI := hq (show IsVR M a.v w9 from ⟨a, rfl, hao, ham⟩)
      obtain ⟨ak, at_, ⟨ako, akc, akl⟩, ao, ac, ais⟩ := a
      rw [Vt.v_mk'] at HAI ⊢
      have hba := below_alloc w9 (.cells #[.int .i64 ak, .string (st at_), .slice ako akl.length akc, .slice ao ais.length ac] 25)
      have HV10 := hq (below_trans (below_trans HV8.o hb) hba)
      have HB10 := hq (below_trans (below_trans HB8.o hb) hba)
      have HA10 := hq (HAI.o.growR hba)
      have HWA := hq (Whole.made w9 25 #[.int .i64 ak, .string (st at_), .slice ako akl.length akc, .slice ao ais.length ac])
      clear hb hba hao ham HAI HV8 HB8 HBA' hta
      go_upto_region 14 with fail
      generalize (w9.alloc (.cells #[.int .i64 ak, .string (st at_), .slice ako akl.length akc, .slice ao ais.length ac] 25)) = w10 at *
      generalize w9.heap.size = g18 at *
      go_wp2_with fail
      refine (HBB'.o w10 HB10.o htb).mono ?_
      rintro e w11 ⟨b, rfl, ⟨hbo, hbm⟩, hb⟩
      have HBI := hq (show IsVR SM b.v w11 from ⟨b, rfl, hbo, hbm⟩)
      obtain ⟨bk, bt, ⟨bko, bkc, bkl⟩, bo, bc, bis⟩ := b
      rw [Vt.v_mk'] at HBI ⊢
      have hba := below_alloc w11 (.cells #[.int .i64 bk, .string (st bt), .slice bko bkl.length bkc, .slice bo bis.length bc] 25)
      have HV12 := hq (below_trans (below_trans HV10.o hb) hba)
      have HB12 := hq (below_trans (below_trans HB10.o hb) hba)
      have HA12 := hq ((HA10.o.growR hb).growR hba)
      have HWA2 := hq ((HWA.o.grow hb).grow hba)
      have HB12I := hq (HBI.o.growR hba)
      have HWB := hq (Whole.made w11 25 #[.int .i64 bk, .string (st bt), .slice bko bkl.length bkc, .slice bo bis.length bc])
      clear hb hba hbo hbm HBI HV10 HB10 HA10 HWA HBB' htb
      go_upto_region 15 with fail
      generalize (w11.alloc (.cells #[.int .i64 bk, .string (st bt), .slice bko bkl.length bkc, .slice bo bis.length bc] 25)) = w12 at *
      generalize w11.heap.size = g21 at *
      go_wp2_with fail
      refine (HBD'.o w12 HB12.o htd).mono ?_
      rintro e w13 ⟨d, rfl, ⟨hdo, hdm⟩, hb⟩
      have HDI := hq (show IsVR M d.v w13 from ⟨d, rfl, hdo, hdm⟩)
      obtain ⟨dk, dt, ⟨dko, dkc, dkl⟩, do_, dc, dis⟩ := d
      rw [Vt.v_mk'] at HDI ⊢
      have hba := below_alloc w13 (.cells #[.int .i64 dk, .string (st dt), .slice dko dkl.length dkc, .slice do_ dis.length dc] 25)
      have HV14 := hq (below_trans (below_trans HV12.o hb) hba)
      have HB14 := hq (below_trans (below_trans HB12.o hb) hba)
      have HA14 := hq ((HA12.o.growR hb).growR hba)
      have HWA4 := hq ((HWA2.o.grow hb).grow hba)
      have HB14I := hq ((HB12I.o.growR hb).growR hba)
      have HWB4 := hq ((HWB.o.grow hb).grow hba)
      have HD14 := hq (HDI.o.growR hba)
      have HWD4 := hq (Whole.made w13 25 #[.int .i64 dk, .string (st dt), .slice dko dkl.length dkc, .slice do_ dis.length dc])
      clear hb hba hdo hdm HDI HV12 HB12 HA12 HWA2 HB12I HWB HBD' htd
      go_upto_region 16 with fail
      generalize (w13.alloc (.cells #[.int .i64 dk, .string (st dt), .slice dko dkl.length dkc, .slice do_ dis.length dc] 25)) = w14 at *
      generalize w13.heap.size = g24 at *
      have HEA := hq (fun U (h : Below w14.heap.size w14 U) => equalVR_any (r := true) (HA14.o.growR h) (HXI.o U (below_trans HB14.o h)) ⟨fun _ => rfl, fun _ => rfl⟩)
      have HEB := hq (fun U (h : Below w14.heap.size w14 U) (z : Value) (hz : IsVR SM z U) => equalVR_any (r := true) (HB14I.o.growR h) hz ⟨fun _ => rfl, fun _ => rfl⟩)
      have HED := hq (fun U (h : Below w14.heap.size w14 U) => equalVR_any (r := true) (HD14.o.growR h) (HXI.o U (below_trans HB14.o h)) ⟨fun _ => rfl, fun _ => rfl⟩)
      clear HA14 HB14I HD14 HXI hcl hcd hcz had haz
      refine go_flow (by kernel_rfl) [(0, 118), (1, 119), (2, 120), (3, 121), (4, 122), (5, 123), (6, 124), (7, 125), (8, 126), (9, 127), (10, 128), (11, 129), (12, 130), (13, 131), (14, 132), (15, 133), (16, 134), (17, 135), (18, 136), (19, 137), (20, 138), (21, 139), (22, 140), (23, 141), (24, 142), (25, 143), (26, 144), (27, 145), (28, 146), (29, 147), (30, 148), (31, 149), (32, 150), (33, 151), (34, 152), (35, 153), (36, 154), (37, 6)] [[0], [1, 0], [2, 1, 0], [3, 2, 1, 0], [4, 1, 0, 3, 2], [5, 4, 1, 0, 3, 2], [6, 5, 4, 1, 0, 3, 2], [7, 6, 5, 4, 1, 0, 3, 2], [8, 5, 4, 1, 0, 3, 2, 7, 6], [9, 8, 5, 4, 1, 0, 3, 2, 7, 6], [10, 9, 8, 5, 4, 1, 0, 3, 2, 7, 6], [11, 10, 9, 8, 5, 4, 1, 0, 3, 2, 7, 6], [12, 9, 8, 5, 4, 1, 0, 3, 2, 7, 6, 11, 10], [13, 12, 9, 8, 5, 4, 1, 0, 3, 2, 7, 6, 11, 10], [14, 13, 12, 9, 8, 5, 4, 1, 0, 3, 2, 7, 6, 11, 10], [15, 14, 13, 12, 9, 8, 5, 4, 1, 0, 3, 2, 7, 6, 11, 10], [16, 13, 12, 9, 8, 5, 4, 1, 0, 3, 2, 7, 6, 11, 10, 15, 14], [17, 16, 13, 12, 9, 8, 5, 4, 1, 0, 3, 2, 7, 6, 11, 10, 15, 14], [18, 17, 16, 13, 12, 9, 8, 5, 4, 1, 0, 3, 2, 7, 6, 11, 10, 15, 14], [19, 18, 17, 16, 13, 12, 9, 8, 5, 4, 1, 0, 3, 2, 7, 6, 11, 10, 15, 14], [20, 17, 16, 13, 12, 9, 8, 5, 4, 1, 0, 3, 2, 7, 6, 11, 10, 15, 14, 19, 18], [21, 20, 17, 16, 13, 12, 9, 8, 5, 4, 1, 0, 3, 2, 7, 6, 11, 10, 15, 14, 19, 18], [22, 21, 20, 17, 16, 13, 12, 9, 8, 5, 4, 1, 0, 3, 2, 7, 6, 11, 10, 15, 14, 19, 18], [23, 21, 20, 17, 16, 13, 12, 9, 8, 5, 4, 1, 0, 3, 2, 7, 6, 11, 10, 15, 14, 19, 18], [24, 22, 21, 20, 17, 16, 13, 12, 9, 8, 5, 4, 1, 0, 3, 2, 7, 6, 11, 10, 15, 14, 19, 18, 23], [25, 21, 20, 17, 16, 13, 12, 9, 8, 5, 4, 1, 0, 3, 2, 7, 6, 11, 10, 15, 14, 19, 18, 24, 22, 23], [26, 25, 21, 20, 17, 16, 13, 12, 9, 8, 5, 4, 1, 0, 3, 2, 7, 6, 11, 10, 15, 14, 19, 18, 24, 22, 23], [27, 26, 25, 21, 20, 17, 16, 13, 12, 9, 8, 5, 4, 1, 0, 3, 2, 7, 6, 11, 10, 15, 14, 19, 18, 24, 22, 23], [28, 26, 25, 21, 20, 17, 16, 13, 12, 9, 8, 5, 4, 1, 0, 3, 2, 7, 6, 11, 10, 15, 14, 19, 18, 24, 22, 23], [29, 28, 26, 25, 21, 20, 17, 16, 13, 12, 9, 8, 5, 4, 1, 0, 3, 2, 7, 6, 11, 10, 15, 14, 19, 18, 24, 22, 23], [30, 27, 26, 25, 21, 20, 17, 16, 13, 12, 9, 8, 5, 4, 1, 0, 3, 2, 7, 6, 11, 10, 15, 14, 19, 18, 24, 22, 23, 29, 28], [31, 26, 25, 21, 20, 17, 16, 13, 12, 9, 8, 5, 4, 1, 0, 3, 2, 7, 6, 11, 10, 15, 14, 19, 18, 24, 22, 23, 30, 27, 29, 28], [32, 31, 26, 25, 21, 20, 17, 16, 13, 12, 9, 8, 5, 4, 1, 0, 3, 2, 7, 6, 11, 10, 15, 14, 19, 18, 24, 22, 23, 30, 27, 29, 28], [33, 32, 31, 26, 25, 21, 20, 17, 16, 13, 12, 9, 8, 5, 4, 1, 0, 3, 2, 7, 6, 11, 10, 15, 14, 19, 18, 24, 22, 23, 30, 27, 29, 28], [34, 32, 31, 26, 25, 21, 20, 17, 16, 13, 12, 9, 8, 5, 4, 1, 0, 3, 2, 7, 6, 11, 10, 15, 14, 19, 18, 24, 22, 23, 30, 27, 29, 28], [35, 33, 32, 31, 26, 25, 21, 20, 17, 16, 13, 12, 9, 8, 5, 4, 1, 0, 3, 2, 7, 6, 11, 10, 15, 14, 19, 18, 24, 22, 23, 30, 27, 29, 28, 34], [36, 32, 31, 26, 25, 21, 20, 17, 16, 13, 12, 9, 8, 5, 4, 1, 0, 3, 2, 7, 6, 11, 10, 15, 14, 19, 18, 24, 22, 23, 30, 27, 29, 28, 35, 33, 34], [37, 36, 32, 31, 26, 25, 21, 20, 17, 16, 13, 12, 9, 8, 5, 4, 1, 0, 3, 2, 7, 6, 11, 10, 15, 14, 19, 18, 24, 22, 23, 30, 27, 29, 28, 35, 33, 34]] [] [] (RB16 (.agg #[.int .i64 k, .string (st t), .slice ko kl.length kc, .slice o is.length c]) (.agg #[.int .i64 ak, .string (st at_), .slice ako akl.length akc, .slice ao ais.length ac]) (.agg #[.int .i64 bk, .string (st bt), .slice bko bkl.length bkc, .slice bo bis.length bc]) (.agg #[.int .i64 dk, .string (st dt), .slice dko dkl.length dkc, .slice do_ dis.length dc]) SM) ?Ax ?hAx (by kernel_rfl) ?hsx ?hex
      case hAx =>
        intro f
        simp only [putS]
        go_simp
        rfl
      case hsx =>
        refine Steps.cons rfl ?_ (Steps.cons rfl ?_ (Steps.cons rfl ?_ (Steps.cons rfl ?_ (Steps.cons rfl ?_ (Steps.cons rfl ?_ (Steps.cons rfl ?_ (Steps.cons rfl ?_ (Steps.cons rfl ?_ (Steps.cons rfl ?_ (Steps.cons rfl ?_ (Steps.cons rfl ?_ (Steps.cons rfl ?_ (Steps.cons rfl ?_ (Steps.cons rfl ?_ (Steps.cons rfl ?_ (Steps.cons rfl ?_ (Steps.cons rfl ?_ (Steps.cons rfl ?_ (Steps.cons rfl ?_ (Steps.cons rfl ?_ (Steps.cons rfl ?_ (Steps.cons rfl ?_ (Steps.cons rfl ?_ (Steps.cons rfl ?_ (Steps.cons rfl ?_ (Steps.cons rfl ?_ (Steps.cons rfl ?_ (Steps.cons rfl ?_ (Steps.cons rfl ?_ (Steps.cons rfl ?_ (Steps.cons rfl ?_ (Steps.cons rfl ?_ (Steps.cons rfl ?_ (Steps.cons rfl ?_ (Steps.cons rfl ?_ (Steps.cons rfl ?_ (Steps.cons rfl ?_ Steps.nil)))))))))))))))))))))))))))))))))))))
        · intro f lo hi W2 hb hd K hK
          rw [if_pos (by rfl)]
          go_simp
          exact hK _ _ (Below.refl _ _) (fun V _ _ _ _ => rfl)
        · intro f lo hi W2 hb hd K hK
          have e0 : f 0 = _ := (hd 0 (by decide) (by decide))
          clear hd
          try dsimp only at hK
          generalize f 0 = x0 at e0 hK ⊢
          subst e0
          rw [if_pos (by rfl)]
          go_simp
          exact hK _ _ (Below.refl _ _) (fun V _ _ _ _ => rfl)
        · intro f lo hi W2 hb hd K hK
          have e1 : f 1 = _ := (hd 1 (by decide) (by decide))
          clear hd
          try dsimp only at hK
          generalize f 1 = x1 at e1 hK ⊢
          subst e1
          rw [if_pos (by rfl)]
          go_simp
          exact hK _ _ (Below.refl _ _) (fun V _ _ _ _ => rfl)
        · intro f lo hi W2 hb hd K hK
          have e2 : f 2 = _ := (hd 2 (by decide) (by decide))
          have e1 : f 1 = _ := (hd 1 (by decide) (by decide))
          clear hd
          try dsimp only at hK
          generalize f 2 = x2 at e2 hK ⊢
          generalize f 1 = x1 at e1 hK ⊢
          subst e2
          subst e1
          rw [if_pos (by rfl)]
          go_simp
          exact hK _ _ (Below.refl _ _) (fun V _ _ _ _ => rfl)
        · intro f lo hi W2 hb hd K hK
          have e1 : f 1 = _ := (hd 1 (by decide) (by decide))
          have e3 : f 3 = _ := (hd 3 (by decide) (by decide))
          clear hd
          try dsimp only at hK
          generalize f 1 = x1 at e1 hK ⊢
          generalize f 3 = x3 at e3 hK ⊢
          subst e1
          subst e3
          rw [if_pos (by rfl)]
          go_simp
          exact hK _ _ (Below.refl _ _) (fun V _ _ _ _ => rfl)
        · intro f lo hi W2 hb hd K hK
          have e4 : f 4 = _ := (hd 4 (by decide) (by decide))
          clear hd
          try dsimp only at hK
          generalize f 4 = x4 at e4 hK ⊢
          subst e4
          rw [if_pos (by rfl)]
          go_simp
          exact hK _ _ (Below.refl _ _) (fun V _ _ _ _ => rfl)
        · intro f lo hi W2 hb hd K hK
          have e5 : f 5 = _ := (hd 5 (by decide) (by decide))
          clear hd
          try dsimp only at hK
          generalize f 5 = x5 at e5 hK ⊢
          subst e5
          rw [if_pos (by rfl)]
          go_simp
          exact hK _ _ (Below.refl _ _) (fun V _ _ _ _ => rfl)
        · intro f lo hi W2 hb hd K hK
          have e6 : f 6 = _ := (hd 6 (by decide) (by decide))
          have e5 : f 5 = _ := (hd 5 (by decide) (by decide))
          clear hd
          try dsimp only at hK
          generalize f 6 = x6 at e6 hK ⊢
          generalize f 5 = x5 at e5 hK ⊢
          subst e6
          subst e5
          rw [if_pos (by rfl)]
          go_simp
          exact hK _ _ (Below.refl _ _) (fun V _ _ _ _ => rfl)
        · intro f lo hi W2 hb hd K hK
          have e5 : f 5 = _ := (hd 5 (by decide) (by decide))
          have e7 : f 7 = _ := (hd 7 (by decide) (by decide))
          clear hd
          try dsimp only at hK
          generalize f 5 = x5 at e5 hK ⊢
          generalize f 7 = x7 at e7 hK ⊢
          subst e5
          subst e7
          rw [if_pos (by rfl)]
          go_simp
          exact hK _ _ (Below.refl _ _) (fun V _ _ _ _ => rfl)
        · intro f lo hi W2 hb hd K hK
          have e8 : f 8 = _ := (hd 8 (by decide) (by decide))
          clear hd
          try dsimp only at hK
          generalize f 8 = x8 at e8 hK ⊢
          subst e8
          rw [if_pos (by rfl)]
          go_simp
          exact hK _ _ (Below.refl _ _) (fun V _ _ _ _ => rfl)
        · intro f lo hi W2 hb hd K hK
          have e9 : f 9 = _ := (hd 9 (by decide) (by decide))
          clear hd
          try dsimp only at hK
          generalize f 9 = x9 at e9 hK ⊢
          subst e9
          rw [if_pos (by rfl)]
          go_simp
          exact hK _ _ (Below.refl _ _) (fun V _ _ _ _ => rfl)
        · intro f lo hi W2 hb hd K hK
          have e10 : f 10 = _ := (hd 10 (by decide) (by decide))
          have e9 : f 9 = _ := (hd 9 (by decide) (by decide))
          clear hd
          try dsimp only at hK
          generalize f 10 = x10 at e10 hK ⊢
          generalize f 9 = x9 at e9 hK ⊢
          subst e10
          subst e9
          rw [if_pos (by rfl)]
          go_simp
          exact hK _ _ (Below.refl _ _) (fun V _ _ _ _ => rfl)
        · intro f lo hi W2 hb hd K hK
          have e9 : f 9 = _ := (hd 9 (by decide) (by decide))
          have e11 : f 11 = _ := (hd 11 (by decide) (by decide))
          clear hd
          try dsimp only at hK
          generalize f 9 = x9 at e9 hK ⊢
          generalize f 11 = x11 at e11 hK ⊢
          subst e9
          subst e11
          rw [if_pos (by rfl)]
          go_simp
          exact hK _ _ (Below.refl _ _) (fun V _ _ _ _ => rfl)
        · intro f lo hi W2 hb hd K hK
          have e12 : f 12 = _ := (hd 12 (by decide) (by decide))
          clear hd
          try dsimp only at hK
          generalize f 12 = x12 at e12 hK ⊢
          subst e12
          rw [if_pos (by rfl)]
          go_simp
          exact hK _ _ (Below.refl _ _) (fun V _ _ _ _ => rfl)
        · intro f lo hi W2 hb hd K hK
          have e13 : f 13 = _ := (hd 13 (by decide) (by decide))
          clear hd
          try dsimp only at hK
          generalize f 13 = x13 at e13 hK ⊢
          subst e13
          rw [if_pos (by rfl)]
          go_simp
          exact hK _ _ (Below.refl _ _) (fun V _ _ _ _ => rfl)
        · intro f lo hi W2 hb hd K hK
          have e14 : f 14 = _ := (hd 14 (by decide) (by decide))
          have e13 : f 13 = _ := (hd 13 (by decide) (by decide))
          clear hd
          try dsimp only at hK
          generalize f 14 = x14 at e14 hK ⊢
          generalize f 13 = x13 at e13 hK ⊢
          subst e14
          subst e13
          rw [if_pos (by rfl)]
          go_simp
          exact hK _ _ (Below.refl _ _) (fun V _ _ _ _ => rfl)
        · intro f lo hi W2 hb hd K hK
          have e13 : f 13 = _ := (hd 13 (by decide) (by decide))
          have e15 : f 15 = _ := (hd 15 (by decide) (by decide))
          clear hd
          try dsimp only at hK
          generalize f 13 = x13 at e13 hK ⊢
          generalize f 15 = x15 at e15 hK ⊢
          subst e13
          subst e15
          rw [if_pos (by rfl)]
          go_simp
          exact hK _ _ (Below.refl _ _) (fun V _ _ _ _ => rfl)
        · intro f lo hi W2 hb hd K hK
          have e16 : f 16 = _ := (hd 16 (by decide) (by decide))
          clear hd
          try dsimp only at hK
          generalize f 16 = x16 at e16 hK ⊢
          subst e16
          rw [if_pos (by rfl)]
          go_simp
          exact hK _ _ (Below.refl _ _) (fun V _ _ _ _ => rfl)
        · intro f lo hi W2 hb hd K hK
          have e17 : f 17 = _ := (hd 17 (by decide) (by decide))
          clear hd
          try dsimp only at hK
          generalize f 17 = x17 at e17 hK ⊢
          subst e17
          rw [if_pos (by rfl)]
          go_simp
          exact hK _ _ (Below.refl _ _) (fun V _ _ _ _ => rfl)
        · intro f lo hi W2 hb hd K hK
          have e18 : f 18 = _ := (hd 18 (by decide) (by decide))
          have e17 : f 17 = _ := (hd 17 (by decide) (by decide))
          clear hd
          try dsimp only at hK
          generalize f 18 = x18 at e18 hK ⊢
          generalize f 17 = x17 at e17 hK ⊢
          subst e18
          subst e17
          rw [if_pos (by rfl)]
          go_simp
          exact hK _ _ (Below.refl _ _) (fun V _ _ _ _ => rfl)
        · intro f lo hi W2 hb hd K hK
          have e17 : f 17 = _ := (hd 17 (by decide) (by decide))
          have e19 : f 19 = _ := (hd 19 (by decide) (by decide))
          clear hd
          try dsimp only at hK
          generalize f 17 = x17 at e17 hK ⊢
          generalize f 19 = x19 at e19 hK ⊢
          subst e17
          subst e19
          rw [if_pos (by rfl)]
          go_simp
          exact hK _ _ (Below.refl _ _) (fun V _ _ _ _ => rfl)
        · intro f lo hi W2 hb hd K hK
          have e20 : f 20 = _ := (hd 20 (by decide) (by decide))
          clear hd
          try dsimp only at hK
          generalize f 20 = x20 at e20 hK ⊢
          subst e20
          rw [if_pos (by rfl)]
          go_simp
          exact hK _ _ (Below.refl _ _) (fun V _ _ _ _ => rfl)
        · intro f lo hi W2 hb hd K hK
          have e21 : f 21 = _ := (hd 21 (by decide) (by decide))
          clear hd
          try dsimp only at hK
          generalize f 21 = x21 at e21 hK ⊢
          subst e21
          rw [if_pos (by rfl)]
          obtain ⟨y0, y1, y2, y3⟩ := four_cells (HWA4.o.grow hb)
          go_simp
          exact hK _ _ (Below.refl _ _) (fun V _ _ _ _ => rfl)
        · intro f lo hi W2 hb hd K hK
          have e21 : f 21 = _ := (hd 21 (by decide) (by decide))
          clear hd
          try dsimp only at hK
          generalize f 21 = x21 at e21 hK ⊢
          subst e21
          rw [if_pos (by rfl)]
          obtain ⟨x0, x1, x2, x3⟩ := four_cells (hVC.o W2 (below_trans HV14.o hb))
          go_simp
          exact hK _ _ (Below.refl _ _) (fun V _ _ _ _ => rfl)
        · intro f lo hi W2 hb hd K hK
          have e22 : f 22 = _ := (hd 22 (by decide) (by decide))
          have e23 : f 23 = _ := (hd 23 (by decide) (by decide))
          have e21 : f 21 = _ := (hd 21 (by decide) (by decide))
          clear hd
          try dsimp only at hK
          generalize f 22 = x22 at e22 hK ⊢
          generalize f 23 = x23 at e23 hK ⊢
          generalize f 21 = x21 at e21 hK ⊢
          subst e22
          subst e23
          subst e21
          rw [if_pos (by rfl)]
          go_simp
          refine (HEA.o W2 hb).mono ?_
          rintro e w2 ⟨rfl, hb2⟩
          exact hK _ _ hb2 (fun _ _ _ _ _ => rfl)
        · intro f lo hi W2 hb hd K hK
          have e21 : f 21 = _ := (hd 21 (by decide) (by decide))
          have e24 : f 24 = _ := (hd 24 (by decide) (by decide))
          clear hd
          try dsimp only at hK
          generalize f 21 = x21 at e21 hK ⊢
          generalize f 24 = x24 at e24 hK ⊢
          subst e21
          subst e24
          rw [if_pos (by rfl)]
          go_simp
          exact hK _ _ (Below.refl _ _) (fun V _ _ _ _ => rfl)
        · intro f lo hi W2 hb hd K hK
          have e25 : f 25 = _ := (hd 25 (by decide) (by decide))
          clear hd
          try dsimp only at hK
          generalize f 25 = x25 at e25 hK ⊢
          subst e25
          rw [if_pos (by rfl)]
          go_simp
          exact hK _ _ (Below.refl _ _) (fun V _ _ _ _ => rfl)
        · intro f lo hi W2 hb hd K hK
          have e26 : f 26 = _ := (hd 26 (by decide) (by decide))
          clear hd
          try dsimp only at hK
          generalize f 26 = x26 at e26 hK ⊢
          subst e26
          rw [if_pos (by rfl)]
          obtain ⟨y0, y1, y2, y3⟩ := four_cells (HWB4.o.grow hb)
          go_simp
          exact hK _ _ (Below.refl _ _) (fun V _ _ _ _ => rfl)
        · intro f lo hi W2 hb hd K hK
          have e26 : f 26 = _ := (hd 26 (by decide) (by decide))
          clear hd
          try dsimp only at hK
          generalize f 26 = x26 at e26 hK ⊢
          subst e26
          rw [if_pos (by rfl)]
          obtain ⟨x0, x1, x2, x3⟩ := four_cells (hVC.o W2 (below_trans HV14.o hb))
          go_simp
          exact hK _ _ (Below.refl _ _) (fun V _ _ _ _ => rfl)
        · intro f lo hi W2 hb hd K hK
          have e26 : f 26 = _ := hd 26 (by decide) (by decide)
          have e28 : f 28 = _ := hd 28 (by decide) (by decide)
          clear hd
          try dsimp only at hK
          generalize f 26 = x26 at e26 hK ⊢
          generalize f 28 = x28 at e28 hK ⊢
          subst e26
          subst e28
          rw [if_pos (by rfl)]
          go_simp
          refine (HSO'.o W2 (below_trans HB14.o hb)).mono ?_
          rintro e w2 ⟨y, rfl, ⟨hyo, hym⟩, hb2⟩
          exact hK _ _ hb2 (fun U _ _ hbl _ => ⟨y, rfl, HSP'.o y W2 U (below_trans HB14.o hb) (own_same hyo (fun g h1 h2 => hbl g h1 h2)) hym, hym⟩)
        · intro f lo hi W2 hb hd K hK
          have e26 : f 26 = _ := hd 26 (by decide) (by decide)
          have e27 : f 27 = _ := hd 27 (by decide) (by decide)
          have h29 := hd 29 (by decide) (by decide)
          clear hd
          try dsimp only at hK h29
          generalize f 26 = x26 at e26 hK ⊢
          generalize f 27 = x27 at e27 hK ⊢
          generalize f 29 = x29 at h29 hK ⊢
          subst e26
          subst e27
          rw [if_pos (by rfl)]
          go_simp
          refine (HEB.o W2 hb x29 h29).mono ?_
          rintro e w2 ⟨rfl, hb2⟩
          exact hK _ _ hb2 (fun _ _ _ _ _ => rfl)
        · intro f lo hi W2 hb hd K hK
          have e26 : f 26 = _ := (hd 26 (by decide) (by decide))
          have e30 : f 30 = _ := (hd 30 (by decide) (by decide))
          clear hd
          try dsimp only at hK
          generalize f 26 = x26 at e26 hK ⊢
          generalize f 30 = x30 at e30 hK ⊢
          subst e26
          subst e30
          rw [if_pos (by rfl)]
          go_simp
          exact hK _ _ (Below.refl _ _) (fun V _ _ _ _ => rfl)
        · intro f lo hi W2 hb hd K hK
          have e31 : f 31 = _ := (hd 31 (by decide) (by decide))
          clear hd
          try dsimp only at hK
          generalize f 31 = x31 at e31 hK ⊢
          subst e31
          rw [if_pos (by rfl)]
          go_simp
          exact hK _ _ (Below.refl _ _) (fun V _ _ _ _ => rfl)
        · intro f lo hi W2 hb hd K hK
          have e32 : f 32 = _ := (hd 32 (by decide) (by decide))
          clear hd
          try dsimp only at hK
          generalize f 32 = x32 at e32 hK ⊢
          subst e32
          rw [if_pos (by rfl)]
          obtain ⟨y0, y1, y2, y3⟩ := four_cells (HWD4.o.grow hb)
          go_simp
          exact hK _ _ (Below.refl _ _) (fun V _ _ _ _ => rfl)
        · intro f lo hi W2 hb hd K hK
          have e32 : f 32 = _ := (hd 32 (by decide) (by decide))
          clear hd
          try dsimp only at hK
          generalize f 32 = x32 at e32 hK ⊢
          subst e32
          rw [if_pos (by rfl)]
          obtain ⟨x0, x1, x2, x3⟩ := four_cells (hVC.o W2 (below_trans HV14.o hb))
          go_simp
          exact hK _ _ (Below.refl _ _) (fun V _ _ _ _ => rfl)
        · intro f lo hi W2 hb hd K hK
          have e33 : f 33 = _ := (hd 33 (by decide) (by decide))
          have e34 : f 34 = _ := (hd 34 (by decide) (by decide))
          have e32 : f 32 = _ := (hd 32 (by decide) (by decide))
          clear hd
          try dsimp only at hK
          generalize f 33 = x33 at e33 hK ⊢
          generalize f 34 = x34 at e34 hK ⊢
          generalize f 32 = x32 at e32 hK ⊢
          subst e33
          subst e34
          subst e32
          rw [if_pos (by rfl)]
          go_simp
          refine (HED.o W2 hb).mono ?_
          rintro e w2 ⟨rfl, hb2⟩
          exact hK _ _ hb2 (fun _ _ _ _ _ => rfl)
        · intro f lo hi W2 hb hd K hK
          have e32 : f 32 = _ := (hd 32 (by decide) (by decide))
          have e35 : f 35 = _ := (hd 35 (by decide) (by decide))
          clear hd
          try dsimp only at hK
          generalize f 32 = x32 at e32 hK ⊢
          generalize f 35 = x35 at e35 hK ⊢
          subst e32
          subst e35
          rw [if_pos (by rfl)]
          go_simp
          exact hK _ _ (Below.refl _ _) (fun V _ _ _ _ => rfl)
        · intro f lo hi W2 hb hd K hK
          have e36 : f 36 = _ := (hd 36 (by decide) (by decide))
          clear hd
          try dsimp only at hK
          generalize f 36 = x36 at e36 hK ⊢
          subst e36
          rw [if_pos (by rfl)]
          go_simp
          exact hK _ _ (Below.refl _ _) (fun V _ _ _ _ => rfl)
      case hex =>
        intro f lo hi W2 hb hR hbx hk2
        have e37 : f 37 = _ := hR 37 (by decide)
        have HV := hq (HFI.o W2 (below_trans HB14.o hb))
        clear hR hbx hk2
        generalize f 37 = x37 at *
        subst e37
        refine wpOps_done ?_
        clear HFI
        go_wp2_with fail
        first | exact HV.o | (go_ret; exact HV.o)
  · have e0 : (er == 0) = false := beq_eq_false_iff_ne.2 h0
    have e1 : (er != 0) = true := by simpa using h0
    have hyk : yk = 0 := HYK.o h0
    subst hyk
    have HVA := hq HV4.o
    have HBA5 := hq HB4.o
    clear HRI' HYF HYF4 HYK HW4 HV4 HB4 hba h0
    obtain ⟨a0, a1, a2, a3⟩ := four_cells (hVC.o w4 HVA.o)
    go_wp2_with fail
    refine (HC1'.o w4 HBA5.o).mono ?_
    rintro e w6 ⟨rfl, hb⟩
    have HV6 := hq (below_trans HVA.o hb)
    have HB6 := hq (below_trans HBA5.o hb)
    clear hb HVA HBA5 a0 a1 a2 a3 HC1' y0 y1 y2 y3
    obtain ⟨a0, a1, a2, a3⟩ := four_cells (hVC.o w6 HV6.o)
    go_wp2_with fail
    refine (HC2'.o w6 HB6.o).mono ?_
    rintro e w7 ⟨rfl, hb⟩
    have HV7 := hq (below_trans HV6.o hb)
    have HB7 := hq (below_trans HB6.o hb)
    clear hb HV6 HB6 a0 a1 a2 a3 HC2'
    obtain ⟨a0, a1, a2, a3⟩ := four_cells (hVC.o w7 HV7.o)
    go_wp2_with fail
    refine (HC3'.o w7 HB7.o).mono ?_
    rintro e w8 ⟨rfl, hb⟩
    have HV8 := hq (below_trans HV7.o hb)
    have HB8 := hq (below_trans HB7.o hb)
    clear hb HV7 HB7 a0 a1 a2 a3 HC3'
    cases hrt : rightM M with
    | false =>
      obtain ⟨q1, q2, q3⟩ := HNO.o hrt
      rw [q1, q2, q3]
      have HV := hq (HFI.o w8 HB8.o)
      clear HFI HSO' HSP' HXI HCL HCM HNO HBA HBB HBD hVC HV8 q1 q2 q3 hrt
      go_wp2_with fail
      first | exact HV.o | (go_ret; exact HV.o)
    | true =>
      obtain ⟨q1, q2, q3⟩ := HCM.o hrt
      have hcl := HCL.o.1
      rw [q1, q2] at hcl
      rw [q1, q2, q3]
      have HBA' := hq (HBA.o hrt)
      have HBB' := hq (HBB.o hrt)
      have HBD' := hq (HBD.o hrt)
      simp only at hcl
      clear q1 q2 q3 hrt HCL HCM HNO HBA HBB HBD
      generalize hSM : sortM M = SM at *
      clear hSM
      generalize prB false 0 0 M = ta at *
      generalize prB false 0 0 SM = tb at *
      generalize prB true i7 0 M = td at *
      by_cases hcd : 65536 < td.length
      · have hcz : (65536 : Int) < (td.length : Int) := by omega
        have HV := hq (HFI.o w8 HB8.o)
        clear HFI HSO' HSP' HXI HBA' HBB' HBD' hVC HV8
        go_wp2_with fail
        first | exact HV.o | (go_ret; exact HV.o)
      have hcz : ¬ (65536 : Int) < (td.length : Int) := by omega
      by_cases had : 65536 < ta.length
      · have haz : (65536 : Int) < (ta.length : Int) := by omega
        have HV := hq (HFI.o w8 HB8.o)
        clear HFI HSO' HSP' HXI HBA' HBB' HBD' hVC HV8
        go_wp2_with fail
        first | exact HV.o | (go_ret; exact HV.o)
      have haz : ¬ (65536 : Int) < (ta.length : Int) := by omega
      have hta : ta.length ≤ 65536 := by omega
      have htb : tb.length ≤ 65536 := by omega
      have htd : td.length ≤ 65536 := by omega
      go_wp2_with fail
      refine (HBA'.o w8 HB8.o hta).mono ?_
      rintro e w9 ⟨a, rfl, ⟨hao, ham⟩, hb⟩
      have HAI := hq (show IsVR M a.v w9 from ⟨a, rfl, hao, ham⟩)
      obtain ⟨ak, at_, ⟨ako, akc, akl⟩, ao, ac, ais⟩ := a
      rw [Vt.v_mk'] at HAI ⊢
      have hba := below_alloc w9 (.cells #[.int .i64 ak, .string (st at_), .slice ako akl.length akc, .slice ao ais.length ac] 25)
      have HV10 := hq (below_trans (below_trans HV8.o hb) hba)
      have HB10 := hq (below_trans (below_trans HB8.o hb) hba)
      have HA10 := hq (HAI.o.growR hba)
      have HWA := hq (Whole.made w9 25 #[.int .i64 ak, .string (st at_), .slice ako akl.length akc, .slice ao ais.length ac])
      clear hb hba hao ham HAI HV8 HB8 HBA' hta
      go_upto_region 14 with fail
      generalize (w9.alloc (.cells #[.int .i64 ak, .string (st at_), .slice ako akl.length akc, .slice ao ais.length ac] 25)) = w10 at *
      generalize w9.heap.size = g18 at *
      go_wp2_with fail
      refine (HBB'.o w10 HB10.o htb).mono ?_
      rintro e w11 ⟨b, rfl, ⟨hbo, hbm⟩, hb⟩
      have HBI := hq (show IsVR SM b.v w11 from ⟨b, rfl, hbo, hbm⟩)
      obtain ⟨bk, bt, ⟨bko, bkc, bkl⟩, bo, bc, bis⟩ := b
      rw [Vt.v_mk'] at HBI ⊢
      have hba := below_alloc w11 (.cells #[.int .i64 bk, .string (st bt), .slice bko bkl.length bkc, .slice bo bis.length bc] 25)
      have HV12 := hq (below_trans (below_trans HV10.o hb) hba)
      have HB12 := hq (below_trans (below_trans HB10.o hb) hba)
      have HA12 := hq ((HA10.o.growR hb).growR hba)
      have HWA2 := hq ((HWA.o.grow hb).grow hba)
      have HB12I := hq (HBI.o.growR hba)
      have HWB := hq (Whole.made w11 25 #[.int .i64 bk, .string (st bt), .slice bko bkl.length bkc, .slice bo bis.length bc])
      clear hb hba hbo hbm HBI HV10 HB10 HA10 HWA HBB' htb
      go_upto_region 15 with fail
      generalize (w11.alloc (.cells #[.int .i64 bk, .string (st bt), .slice bko bkl.length bkc, .slice bo bis.length bc] 25)) = w12 at *
      generalize w11.heap.size = g21 at *
      go_wp2_with fail
      refine (HBD'.o w12 HB12.o htd).mono ?_
      rintro e w13 ⟨d, rfl, ⟨hdo, hdm⟩, hb⟩
      have HDI := hq (show IsVR M d.v w13 from ⟨d, rfl, hdo, hdm⟩)
      obtain ⟨dk, dt, ⟨dko, dkc, dkl⟩, do_, dc, dis⟩ := d
      rw [Vt.v_mk'] at HDI ⊢
      have hba := below_alloc w13 (.cells #[.int .i64 dk, .string (st dt), .slice dko dkl.length dkc, .slice do_ dis.length dc] 25)
      have HV14 := hq (below_trans (below_trans HV12.o hb) hba)
      have HB14 := hq (below_trans (below_trans HB12.o hb) hba)
      have HA14 := hq ((HA12.o.growR hb).growR hba)
      have HWA4 := hq ((HWA2.o.grow hb).grow hba)
      have HB14I := hq ((HB12I.o.growR hb).growR hba)
      have HWB4 := hq ((HWB.o.grow hb).grow hba)
      have HD14 := hq (HDI.o.growR hba)
      have HWD4 := hq (Whole.made w13 25 #[.int .i64 dk, .string (st dt), .slice dko dkl.length dkc, .slice do_ dis.length dc])
      clear hb hba hdo hdm HDI HV12 HB12 HA12 HWA2 HB12I HWB HBD' htd
      go_upto_region 16 with fail
      generalize (w13.alloc (.cells #[.int .i64 dk, .string (st dt), .slice dko dkl.length dkc, .slice do_ dis.length dc] 25)) = w14 at *
      generalize w13.heap.size = g24 at *
      have HEA := hq (fun U (h : Below w14.heap.size w14 U) => equalVR_any (r := true) (HA14.o.growR h) (HXI.o U (below_trans HB14.o h)) ⟨fun _ => rfl, fun _ => rfl⟩)
      have HEB := hq (fun U (h : Below w14.heap.size w14 U) (z : Value) (hz : IsVR SM z U) => equalVR_any (r := true) (HB14I.o.growR h) hz ⟨fun _ => rfl, fun _ => rfl⟩)
      have HED := hq (fun U (h : Below w14.heap.size w14 U) => equalVR_any (r := true) (HD14.o.growR h) (HXI.o U (below_trans HB14.o h)) ⟨fun _ => rfl, fun _ => rfl⟩)
      clear HA14 HB14I HD14 HXI hcl hcd hcz had haz
      refine go_flow (by kernel_rfl) [(0, 118), (1, 119), (2, 120), (3, 121), (4, 122), (5, 123), (6, 124), (7, 125), (8, 126), (9, 127), (10, 128), (11, 129), (12, 130), (13, 131), (14, 132), (15, 133), (16, 134), (17, 135), (18, 136), (19, 137), (20, 138), (21, 139), (22, 140), (23, 141), (24, 142), (25, 143), (26, 144), (27, 145), (28, 146), (29, 147), (30, 148), (31, 149), (32, 150), (33, 151), (34, 152), (35, 153), (36, 154), (37, 6)] [[0], [1, 0], [2, 1, 0], [3, 2, 1, 0], [4, 1, 0, 3, 2], [5, 4, 1, 0, 3, 2], [6, 5, 4, 1, 0, 3, 2], [7, 6, 5, 4, 1, 0, 3, 2], [8, 5, 4, 1, 0, 3, 2, 7, 6], [9, 8, 5, 4, 1, 0, 3, 2, 7, 6], [10, 9, 8, 5, 4, 1, 0, 3, 2, 7, 6], [11, 10, 9, 8, 5, 4, 1, 0, 3, 2, 7, 6], [12, 9, 8, 5, 4, 1, 0, 3, 2, 7, 6, 11, 10], [13, 12, 9, 8, 5, 4, 1, 0, 3, 2, 7, 6, 11, 10], [14, 13, 12, 9, 8, 5, 4, 1, 0, 3, 2, 7, 6, 11, 10], [15, 14, 13, 12, 9, 8, 5, 4, 1, 0, 3, 2, 7, 6, 11, 10], [16, 13, 12, 9, 8, 5, 4, 1, 0, 3, 2, 7, 6, 11, 10, 15, 14], [17, 16, 13, 12, 9, 8, 5, 4, 1, 0, 3, 2, 7, 6, 11, 10, 15, 14], [18, 17, 16, 13, 12, 9, 8, 5, 4, 1, 0, 3, 2, 7, 6, 11, 10, 15, 14], [19, 18, 17, 16, 13, 12, 9, 8, 5, 4, 1, 0, 3, 2, 7, 6, 11, 10, 15, 14], [20, 17, 16, 13, 12, 9, 8, 5, 4, 1, 0, 3, 2, 7, 6, 11, 10, 15, 14, 19, 18], [21, 20, 17, 16, 13, 12, 9, 8, 5, 4, 1, 0, 3, 2, 7, 6, 11, 10, 15, 14, 19, 18], [22, 21, 20, 17, 16, 13, 12, 9, 8, 5, 4, 1, 0, 3, 2, 7, 6, 11, 10, 15, 14, 19, 18], [23, 21, 20, 17, 16, 13, 12, 9, 8, 5, 4, 1, 0, 3, 2, 7, 6, 11, 10, 15, 14, 19, 18], [24, 22, 21, 20, 17, 16, 13, 12, 9, 8, 5, 4, 1, 0, 3, 2, 7, 6, 11, 10, 15, 14, 19, 18, 23], [25, 21, 20, 17, 16, 13, 12, 9, 8, 5, 4, 1, 0, 3, 2, 7, 6, 11, 10, 15, 14, 19, 18, 24, 22, 23], [26, 25, 21, 20, 17, 16, 13, 12, 9, 8, 5, 4, 1, 0, 3, 2, 7, 6, 11, 10, 15, 14, 19, 18, 24, 22, 23], [27, 26, 25, 21, 20, 17, 16, 13, 12, 9, 8, 5, 4, 1, 0, 3, 2, 7, 6, 11, 10, 15, 14, 19, 18, 24, 22, 23], [28, 26, 25, 21, 20, 17, 16, 13, 12, 9, 8, 5, 4, 1, 0, 3, 2, 7, 6, 11, 10, 15, 14, 19, 18, 24, 22, 23], [29, 28, 26, 25, 21, 20, 17, 16, 13, 12, 9, 8, 5, 4, 1, 0, 3, 2, 7, 6, 11, 10, 15, 14, 19, 18, 24, 22, 23], [30, 27, 26, 25, 21, 20, 17, 16, 13, 12, 9, 8, 5, 4, 1, 0, 3, 2, 7, 6, 11, 10, 15, 14, 19, 18, 24, 22, 23, 29, 28], [31, 26, 25, 21, 20, 17, 16, 13, 12, 9, 8, 5, 4, 1, 0, 3, 2, 7, 6, 11, 10, 15, 14, 19, 18, 24, 22, 23, 30, 27, 29, 28], [32, 31, 26, 25, 21, 20, 17, 16, 13, 12, 9, 8, 5, 4, 1, 0, 3, 2, 7, 6, 11, 10, 15, 14, 19, 18, 24, 22, 23, 30, 27, 29, 28], [33, 32, 31, 26, 25, 21, 20, 17, 16, 13, 12, 9, 8, 5, 4, 1, 0, 3, 2, 7, 6, 11, 10, 15, 14, 19, 18, 24, 22, 23, 30, 27, 29, 28], [34, 32, 31, 26, 25, 21, 20, 17, 16, 13, 12, 9, 8, 5, 4, 1, 0, 3, 2, 7, 6, 11, 10, 15, 14, 19, 18, 24, 22, 23, 30, 27, 29, 28], [35, 33, 32, 31, 26, 25, 21, 20, 17, 16, 13, 12, 9, 8, 5, 4, 1, 0, 3, 2, 7, 6, 11, 10, 15, 14, 19, 18, 24, 22, 23, 30, 27, 29, 28, 34], [36, 32, 31, 26, 25, 21, 20, 17, 16, 13, 12, 9, 8, 5, 4, 1, 0, 3, 2, 7, 6, 11, 10, 15, 14, 19, 18, 24, 22, 23, 30, 27, 29, 28, 35, 33, 34], [37, 36, 32, 31, 26, 25, 21, 20, 17, 16, 13, 12, 9, 8, 5, 4, 1, 0, 3, 2, 7, 6, 11, 10, 15, 14, 19, 18, 24, 22, 23, 30, 27, 29, 28, 35, 33, 34]] [] [] (RB16 (.agg #[.int .i64 k, .string (st t), .slice ko kl.length kc, .slice o is.length c]) (.agg #[.int .i64 ak, .string (st at_), .slice ako akl.length akc, .slice ao ais.length ac]) (.agg #[.int .i64 bk, .string (st bt), .slice bko bkl.length bkc, .slice bo bis.length bc]) (.agg #[.int .i64 dk, .string (st dt), .slice dko dkl.length dkc, .slice do_ dis.length dc]) SM) ?Ay ?hAy (by kernel_rfl) ?hsy ?hey
      case hAy =>
        intro f
        simp only [putS]
        go_simp
        rfl
      case hsy =>
        refine Steps.cons rfl ?_ (Steps.cons rfl ?_ (Steps.cons rfl ?_ (Steps.cons rfl ?_ (Steps.cons rfl ?_ (Steps.cons rfl ?_ (Steps.cons rfl ?_ (Steps.cons rfl ?_ (Steps.cons rfl ?_ (Steps.cons rfl ?_ (Steps.cons rfl ?_ (Steps.cons rfl ?_ (Steps.cons rfl ?_ (Steps.cons rfl ?_ (Steps.cons rfl ?_ (Steps.cons rfl ?_ (Steps.cons rfl ?_ (Steps.cons rfl ?_ (Steps.cons rfl ?_ (Steps.cons rfl ?_ (Steps.cons rfl ?_ (Steps.cons rfl ?_ (Steps.cons rfl ?_ (Steps.cons rfl ?_ (Steps.cons rfl ?_ (Steps.cons rfl ?_ (Steps.cons rfl ?_ (Steps.cons rfl ?_ (Steps.cons rfl ?_ (Steps.cons rfl ?_ (Steps.cons rfl ?_ (Steps.cons rfl ?_ (Steps.cons rfl ?_ (Steps.cons rfl ?_ (Steps.cons rfl ?_ (Steps.cons rfl ?_ (Steps.cons rfl ?_ (Steps.cons rfl ?_ Steps.nil)))))))))))))))))))))))))))))))))))))
        · intro f lo hi W2 hb hd K hK
          rw [if_pos (by rfl)]
          go_simp
          exact hK _ _ (Below.refl _ _) (fun V _ _ _ _ => rfl)
        · intro f lo hi W2 hb hd K hK
          have e0 : f 0 = _ := (hd 0 (by decide) (by decide))
          clear hd
          try dsimp only at hK
          generalize f 0 = x0 at e0 hK ⊢
          subst e0
          rw [if_pos (by rfl)]
          go_simp
          exact hK _ _ (Below.refl _ _) (fun V _ _ _ _ => rfl)
        · intro f lo hi W2 hb hd K hK
          have e1 : f 1 = _ := (hd 1 (by decide) (by decide))
          clear hd
          try dsimp only at hK
          generalize f 1 = x1 at e1 hK ⊢
          subst e1
          rw [if_pos (by rfl)]
          go_simp
          exact hK _ _ (Below.refl _ _) (fun V _ _ _ _ => rfl)
        · intro f lo hi W2 hb hd K hK
          have e2 : f 2 = _ := (hd 2 (by decide) (by decide))
          have e1 : f 1 = _ := (hd 1 (by decide) (by decide))
          clear hd
          try dsimp only at hK
          generalize f 2 = x2 at e2 hK ⊢
          generalize f 1 = x1 at e1 hK ⊢
          subst e2
          subst e1
          rw [if_pos (by rfl)]
          go_simp
          exact hK _ _ (Below.refl _ _) (fun V _ _ _ _ => rfl)
        · intro f lo hi W2 hb hd K hK
          have e1 : f 1 = _ := (hd 1 (by decide) (by decide))
          have e3 : f 3 = _ := (hd 3 (by decide) (by decide))
          clear hd
          try dsimp only at hK
          generalize f 1 = x1 at e1 hK ⊢
          generalize f 3 = x3 at e3 hK ⊢
          subst e1
          subst e3
          rw [if_pos (by rfl)]
          go_simp
          exact hK _ _ (Below.refl _ _) (fun V _ _ _ _ => rfl)
        · intro f lo hi W2 hb hd K hK
          have e4 : f 4 = _ := (hd 4 (by decide) (by decide))
          clear hd
          try dsimp only at hK
          generalize f 4 = x4 at e4 hK ⊢
          subst e4
          rw [if_pos (by rfl)]
          go_simp
          exact hK _ _ (Below.refl _ _) (fun V _ _ _ _ => rfl)
        · intro f lo hi W2 hb hd K hK
          have e5 : f 5 = _ := (hd 5 (by decide) (by decide))
          clear hd
          try dsimp only at hK
          generalize f 5 = x5 at e5 hK ⊢
          subst e5
          rw [if_pos (by rfl)]
          go_simp
          exact hK _ _ (Below.refl _ _) (fun V _ _ _ _ => rfl)
        · intro f lo hi W2 hb hd K hK
          have e6 : f 6 = _ := (hd 6 (by decide) (by decide))
          have e5 : f 5 = _ := (hd 5 (by decide) (by decide))
          clear hd
          try dsimp only at hK
          generalize f 6 = x6 at e6 hK ⊢
          generalize f 5 = x5 at e5 hK ⊢
          subst e6
          subst e5
          rw [if_pos (by rfl)]
          go_simp
          exact hK _ _ (Below.refl _ _) (fun V _ _ _ _ => rfl)
        · intro f lo hi W2 hb hd K hK
          have e5 : f 5 = _ := (hd 5 (by decide) (by decide))
          have e7 : f 7 = _ := (hd 7 (by decide) (by decide))
          clear hd
          try dsimp only at hK
          generalize f 5 = x5 at e5 hK ⊢
          generalize f 7 = x7 at e7 hK ⊢
          subst e5
          subst e7
          rw [if_pos (by rfl)]
          go_simp
          exact hK _ _ (Below.refl _ _) (fun V _ _ _ _ => rfl)
        · intro f lo hi W2 hb hd K hK
          have e8 : f 8 = _ := (hd 8 (by decide) (by decide))
          clear hd
          try dsimp only at hK
          generalize f 8 = x8 at e8 hK ⊢
          subst e8
          rw [if_pos (by rfl)]
          go_simp
          exact hK _ _ (Below.refl _ _) (fun V _ _ _ _ => rfl)
        · intro f lo hi W2 hb hd K hK
          have e9 : f 9 = _ := (hd 9 (by decide) (by decide))
          clear hd
          try dsimp only at hK
          generalize f 9 = x9 at e9 hK ⊢
          subst e9
          rw [if_pos (by rfl)]
          go_simp
          exact hK _ _ (Below.refl _ _) (fun V _ _ _ _ => rfl)
        · intro f lo hi W2 hb hd K hK
          have e10 : f 10 = _ := (hd 10 (by decide) (by decide))
          have e9 : f 9 = _ := (hd 9 (by decide) (by decide))
          clear hd
          try dsimp only at hK
          generalize f 10 = x10 at e10 hK ⊢
          generalize f 9 = x9 at e9 hK ⊢
          subst e10
          subst e9
          rw [if_pos (by rfl)]
          go_simp
          exact hK _ _ (Below.refl _ _) (fun V _ _ _ _ => rfl)
        · intro f lo hi W2 hb hd K hK
          have e9 : f 9 = _ := (hd 9 (by decide) (by decide))
          have e11 : f 11 = _ := (hd 11 (by decide) (by decide))
          clear hd
          try dsimp only at hK
          generalize f 9 = x9 at e9 hK ⊢
          generalize f 11 = x11 at e11 hK ⊢
          subst e9
          subst e11
          rw [if_pos (by rfl)]
          go_simp
          exact hK _ _ (Below.refl _ _) (fun V _ _ _ _ => rfl)
        · intro f lo hi W2 hb hd K hK
          have e12 : f 12 = _ := (hd 12 (by decide) (by decide))
          clear hd
          try dsimp only at hK
          generalize f 12 = x12 at e12 hK ⊢
          subst e12
          rw [if_pos (by rfl)]
          go_simp
          exact hK _ _ (Below.refl _ _) (fun V _ _ _ _ => rfl)
        · intro f lo hi W2 hb hd K hK
          have e13 : f 13 = _ := (hd 13 (by decide) (by decide))
          clear hd
          try dsimp only at hK
          generalize f 13 = x13 at e13 hK ⊢
          subst e13
          rw [if_pos (by rfl)]
          go_simp
          exact hK _ _ (Below.refl _ _) (fun V _ _ _ _ => rfl)
        · intro f lo hi W2 hb hd K hK
          have e14 : f 14 = _ := (hd 14 (by decide) (by decide))
          have e13 : f 13 = _ := (hd 13 (by decide) (by decide))
          clear hd
          try dsimp only at hK
          generalize f 14 = x14 at e14 hK ⊢
          generalize f 13 = x13 at e13 hK ⊢
          subst e14
          subst e13
          rw [if_pos (by rfl)]
          go_simp
          exact hK _ _ (Below.refl _ _) (fun V _ _ _ _ => rfl)
        · intro f lo hi W2 hb hd K hK
          have e13 : f 13 = _ := (hd 13 (by decide) (by decide))
          have e15 : f 15 = _ := (hd 15 (by decide) (by decide))
          clear hd
          try dsimp only at hK
          generalize f 13 = x13 at e13 hK ⊢
          generalize f 15 = x15 at e15 hK ⊢
          subst e13
          subst e15
          rw [if_pos (by rfl)]
          go_simp
          exact hK _ _ (Below.refl _ _) (fun V _ _ _ _ => rfl)
        · intro f lo hi W2 hb hd K hK
          have e16 : f 16 = _ := (hd 16 (by decide) (by decide))
          clear hd
          try dsimp only at hK
          generalize f 16 = x16 at e16 hK ⊢
          subst e16
          rw [if_pos (by rfl)]
          go_simp
          exact hK _ _ (Below.refl _ _) (fun V _ _ _ _ => rfl)
        · intro f lo hi W2 hb hd K hK
          have e17 : f 17 = _ := (hd 17 (by decide) (by decide))
          clear hd
          try dsimp only at hK
          generalize f 17 = x17 at e17 hK ⊢
          subst e17
          rw [if_pos (by rfl)]
          go_simp
          exact hK _ _ (Below.refl _ _) (fun V _ _ _ _ => rfl)
        · intro f lo hi W2 hb hd K hK
          have e18 : f 18 = _ := (hd 18 (by decide) (by decide))
          have e17 : f 17 = _ := (hd 17 (by decide) (by decide))
          clear hd
          try dsimp only at hK
          generalize f 18 = x18 at e18 hK ⊢
          generalize f 17 = x17 at e17 hK ⊢
          subst e18
          subst e17
          rw [if_pos (by rfl)]
          go_simp
          exact hK _ _ (Below.refl _ _) (fun V _ _ _ _ => rfl)
        · intro f lo hi W2 hb hd K hK
          have e17 : f 17 = _ := (hd 17 (by decide) (by decide))
          have e19 : f 19 = _ := (hd 19 (by decide) (by decide))
          clear hd
          try dsimp only at hK
          generalize f 17 = x17 at e17 hK ⊢
          generalize f 19 = x19 at e19 hK ⊢
          subst e17
          subst e19
          rw [if_pos (by rfl)]
          go_simp
          exact hK _ _ (Below.refl _ _) (fun V _ _ _ _ => rfl)
        · intro f lo hi W2 hb hd K hK
          have e20 : f 20 = _ := (hd 20 (by decide) (by decide))
          clear hd
          try dsimp only at hK
          generalize f 20 = x20 at e20 hK ⊢
          subst e20
          rw [if_pos (by rfl)]
          go_simp
          exact hK _ _ (Below.refl _ _) (fun V _ _ _ _ => rfl)
        · intro f lo hi W2 hb hd K hK
          have e21 : f 21 = _ := (hd 21 (by decide) (by decide))
          clear hd
          try dsimp only at hK
          generalize f 21 = x21 at e21 hK ⊢
          subst e21
          rw [if_pos (by rfl)]
          obtain ⟨y0, y1, y2, y3⟩ := four_cells (HWA4.o.grow hb)
          go_simp
          exact hK _ _ (Below.refl _ _) (fun V _ _ _ _ => rfl)
        · intro f lo hi W2 hb hd K hK
          have e21 : f 21 = _ := (hd 21 (by decide) (by decide))
          clear hd
          try dsimp only at hK
          generalize f 21 = x21 at e21 hK ⊢
          subst e21
          rw [if_pos (by rfl)]
          obtain ⟨x0, x1, x2, x3⟩ := four_cells (hVC.o W2 (below_trans HV14.o hb))
          go_simp
          exact hK _ _ (Below.refl _ _) (fun V _ _ _ _ => rfl)
        · intro f lo hi W2 hb hd K hK
          have e22 : f 22 = _ := (hd 22 (by decide) (by decide))
          have e23 : f 23 = _ := (hd 23 (by decide) (by decide))
          have e21 : f 21 = _ := (hd 21 (by decide) (by decide))
          clear hd
          try dsimp only at hK
          generalize f 22 = x22 at e22 hK ⊢
          generalize f 23 = x23 at e23 hK ⊢
          generalize f 21 = x21 at e21 hK ⊢
          subst e22
          subst e23
          subst e21
          rw [if_pos (by rfl)]
          go_simp
          refine (HEA.o W2 hb).mono ?_
          rintro e w2 ⟨rfl, hb2⟩
          exact hK _ _ hb2 (fun _ _ _ _ _ => rfl)
        · intro f lo hi W2 hb hd K hK
          have e21 : f 21 = _ := (hd 21 (by decide) (by decide))
          have e24 : f 24 = _ := (hd 24 (by decide) (by decide))
          clear hd
          try dsimp only at hK
          generalize f 21 = x21 at e21 hK ⊢
          generalize f 24 = x24 at e24 hK ⊢
          subst e21
          subst e24
          rw [if_pos (by rfl)]
          go_simp
          exact hK _ _ (Below.refl _ _) (fun V _ _ _ _ => rfl)
        · intro f lo hi W2 hb hd K hK
          have e25 : f 25 = _ := (hd 25 (by decide) (by decide))
          clear hd
          try dsimp only at hK
          generalize f 25 = x25 at e25 hK ⊢
          subst e25
          rw [if_pos (by rfl)]
          go_simp
          exact hK _ _ (Below.refl _ _) (fun V _ _ _ _ => rfl)
        · intro f lo hi W2 hb hd K hK
          have e26 : f 26 = _ := (hd 26 (by decide) (by decide))
          clear hd
          try dsimp only at hK
          generalize f 26 = x26 at e26 hK ⊢
          subst e26
          rw [if_pos (by rfl)]
          obtain ⟨y0, y1, y2, y3⟩ := four_cells (HWB4.o.grow hb)
          go_simp
          exact hK _ _ (Below.refl _ _) (fun V _ _ _ _ => rfl)
        · intro f lo hi W2 hb hd K hK
          have e26 : f 26 = _ := (hd 26 (by decide) (by decide))
          clear hd
          try dsimp only at hK
          generalize f 26 = x26 at e26 hK ⊢
          subst e26
          rw [if_pos (by rfl)]
          obtain ⟨x0, x1, x2, x3⟩ := four_cells (hVC.o W2 (below_trans HV14.o hb))
          go_simp
          exact hK _ _ (Below.refl _ _) (fun V _ _ _ _ => rfl)
        · intro f lo hi W2 hb hd K hK
          have e26 : f 26 = _ := hd 26 (by decide) (by decide)
          have e28 : f 28 = _ := hd 28 (by decide) (by decide)
          clear hd
          try dsimp only at hK
          generalize f 26 = x26 at e26 hK ⊢
          generalize f 28 = x28 at e28 hK ⊢
          subst e26
          subst e28
          rw [if_pos (by rfl)]
          go_simp
          refine (HSO'.o W2 (below_trans HB14.o hb)).mono ?_
          rintro e w2 ⟨y, rfl, ⟨hyo, hym⟩, hb2⟩
          exact hK _ _ hb2 (fun U _ _ hbl _ => ⟨y, rfl, HSP'.o y W2 U (below_trans HB14.o hb) (own_same hyo (fun g h1 h2 => hbl g h1 h2)) hym, hym⟩)
        · intro f lo hi W2 hb hd K hK
          have e26 : f 26 = _ := hd 26 (by decide) (by decide)
          have e27 : f 27 = _ := hd 27 (by decide) (by decide)
          have h29 := hd 29 (by decide) (by decide)
          clear hd
          try dsimp only at hK h29
          generalize f 26 = x26 at e26 hK ⊢
          generalize f 27 = x27 at e27 hK ⊢
          generalize f 29 = x29 at h29 hK ⊢
          subst e26
          subst e27
          rw [if_pos (by rfl)]
          go_simp
          refine (HEB.o W2 hb x29 h29).mono ?_
          rintro e w2 ⟨rfl, hb2⟩
          exact hK _ _ hb2 (fun _ _ _ _ _ => rfl)
        · intro f lo hi W2 hb hd K hK
          have e26 : f 26 = _ := (hd 26 (by decide) (by decide))
          have e30 : f 30 = _ := (hd 30 (by decide) (by decide))
          clear hd
          try dsimp only at hK
          generalize f 26 = x26 at e26 hK ⊢
          generalize f 30 = x30 at e30 hK ⊢
          subst e26
          subst e30
          rw [if_pos (by rfl)]
          go_simp
          exact hK _ _ (Below.refl _ _) (fun V _ _ _ _ => rfl)
        · intro f lo hi W2 hb hd K hK
          have e31 : f 31 = _ := (hd 31 (by decide) (by decide))
          clear hd
          try dsimp only at hK
          generalize f 31 = x31 at e31 hK ⊢
          subst e31
          rw [if_pos (by rfl)]
          go_simp
          exact hK _ _ (Below.refl _ _) (fun V _ _ _ _ => rfl)
        · intro f lo hi W2 hb hd K hK
          have e32 : f 32 = _ := (hd 32 (by decide) (by decide))
          clear hd
          try dsimp only at hK
          generalize f 32 = x32 at e32 hK ⊢
          subst e32
          rw [if_pos (by rfl)]
          obtain ⟨y0, y1, y2, y3⟩ := four_cells (HWD4.o.grow hb)
          go_simp
          exact hK _ _ (Below.refl _ _) (fun V _ _ _ _ => rfl)
        · intro f lo hi W2 hb hd K hK
          have e32 : f 32 = _ := (hd 32 (by decide) (by decide))
          clear hd
          try dsimp only at hK
          generalize f 32 = x32 at e32 hK ⊢
          subst e32
          rw [if_pos (by rfl)]
          obtain ⟨x0, x1, x2, x3⟩ := four_cells (hVC.o W2 (below_trans HV14.o hb))
          go_simp
          exact hK _ _ (Below.refl _ _) (fun V _ _ _ _ => rfl)
        · intro f lo hi W2 hb hd K hK
          have e33 : f 33 = _ := (hd 33 (by decide) (by decide))
          have e34 : f 34 = _ := (hd 34 (by decide) (by decide))
          have e32 : f 32 = _ := (hd 32 (by decide) (by decide))
          clear hd
          try dsimp only at hK
          generalize f 33 = x33 at e33 hK ⊢
          generalize f 34 = x34 at e34 hK ⊢
          generalize f 32 = x32 at e32 hK ⊢
          subst e33
          subst e34
          subst e32
          rw [if_pos (by rfl)]
          go_simp
          refine (HED.o W2 hb).mono ?_
          rintro e w2 ⟨rfl, hb2⟩
          exact hK _ _ hb2 (fun _ _ _ _ _ => rfl)
        · intro f lo hi W2 hb hd K hK
          have e32 : f 32 = _ := (hd 32 (by decide) (by decide))
          have e35 : f 35 = _ := (hd 35 (by decide) (by decide))
          clear hd
          try dsimp only at hK
          generalize f 32 = x32 at e32 hK ⊢
          generalize f 35 = x35 at e35 hK ⊢
          subst e32
          subst e35
          rw [if_pos (by rfl)]
          go_simp
          exact hK _ _ (Below.refl _ _) (fun V _ _ _ _ => rfl)
        · intro f lo hi W2 hb hd K hK
          have e36 : f 36 = _ := (hd 36 (by decide) (by decide))
          clear hd
          try dsimp only at hK
          generalize f 36 = x36 at e36 hK ⊢
          subst e36
          rw [if_pos (by rfl)]
          go_simp
          exact hK _ _ (Below.refl _ _) (fun V _ _ _ _ => rfl)
      case hey =>
        intro f lo hi W2 hb hR hbx hk2
        have e37 : f 37 = _ := hR 37 (by decide)
        have HV := hq (HFI.o W2 (below_trans HB14.o hb))
        clear hR hbx hk2
        generalize f 37 = x37 at *
        subst e37
        refine wpOps_done ?_
        clear HFI
        go_wp2_with fail
        first | exact HV.o | (go_ret; exact HV.o)
end Go.Proofs.YtnlkokgekjlmmaaGreatDoor
