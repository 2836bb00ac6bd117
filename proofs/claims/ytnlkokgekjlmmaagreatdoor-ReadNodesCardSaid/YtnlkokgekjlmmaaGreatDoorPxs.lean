/-
  WALK: the document's Step of a path.
-/
import Derived.Test.YtnlkokgekjlmmaaGreatDoorPxr
import Derived.Test.YtnlkokgekjlmmaaGreatDoorVrC
namespace Go.Proofs.YtnlkokgekjlmmaaGreatDoor
open Go.RowKit
def stepM (v : Vl) (s : Bs) : Int := if (belowM v s).2 = true then (belowM v s).1 else -1
theorem step_six {k : Int} {t s : Bs} {ks : List Bs} {is : List Vl} (h6 : k = 6) : stepM (.mk k t ks is) s = ixI ks s := by
 unfold stepM belowM
 rw [if_pos (show (Vl.mk k t ks is).k = 6 from h6)]
 show (if decide (0 ≤ ixI ks s) = true then ixI ks s else -1) = ixI ks s
 by_cases h : 0 ≤ ixI ks s
 · rw [if_pos (decide_eq_true h)]
 · rw [if_neg (by simpa using h)]
   unfold ixI at h ⊢
   cases hx : ixOf ks s with
   | none => rfl
   | some i => rw [hx] at h; simp only at h; omega
theorem step_five {k : Int} {t s : Bs} {ks : List Bs} {is : List Vl} (h5 : k = 5) : stepM (.mk k t ks is) s = if ((indexM s).isSome && decide ((indexM s).getD 0 < is.length)) = true then (((indexM s).getD 0 : Nat) : Int) else -1 := by
 unfold stepM belowM
 rw [if_neg (show ¬ (Vl.mk k t ks is).k = 6 from fun e => by have : k = 6 := e; omega), if_pos (show (Vl.mk k t ks is).k = 5 from h5)]
 rfl
theorem step_else {k : Int} {t s : Bs} {ks : List Bs} {is : List Vl} (h6 : ¬ k = 6) (h5 : ¬ k = 5) : stepM (.mk k t ks is) s = -1 := by
 unfold stepM belowM
 rw [if_neg (show ¬ (Vl.mk k t ks is).k = 6 from h6), if_neg (show ¬ (Vl.mk k t ks is).k = 5 from h5)]
 rfl
set_option maxHeartbeats 8000000 in
set_option maxRecDepth 1000000 in
theorem rstep_any (x : Vt) (s : Bs) (w : World) (hx : x.Ok w) (hs : s.length ≤ maxLen) : Calls Tryz.prog 77 #[x.v, .string (st s)] w (IPost (stepM x.m s) w) := by
 have HIX := hq (fun V => rindex_any (st s) V (by rw [st_size]; exact hs))
 rw [st_list] at HIX
 obtain ⟨k, t, ⟨ko, kc, kl⟩, o, c, is⟩ := x
 have hkl : kl.length ≤ kc := hx.hks.le
 have hkc : kc ≤ maxLen := hx.hks.cp
 have hl := hx.hl
 have hc := hx.hc
 unfold maxLen at hkc hc
 have HKS := hq hx.hks.rd
 rw [Vt.v_mk', Vt.m_mk]
 simp only
 have H6 := hq (@step_six k t s kl (is.map Vt.m))
 have H5 := hq (@step_five k t s kl (is.map Vt.m))
 have HE := hq (@step_else k t s kl (is.map Vt.m))
 rw [List.length_map] at H5
 have HP : Hq (∀ (n : Int) W', stepM (.mk k t kl (is.map Vt.m)) s = n → Below w.heap.size w W' → IPost (stepM (.mk k t kl (is.map Vt.m)) s) w (.returned (.int .i64 n)) W') := hq (fun n W' h1 h2 => ⟨by rw [h1], h2⟩)
 generalize IPost (stepM (.mk k t kl (is.map Vt.m)) s) w = PP at *
 generalize stepM (.mk k t kl (is.map Vt.m)) s = SM at *
 have HB0 := hq (below_alloc w (.cells #[.int .i64 k, .string (st t), .slice ko kl.length kc, .slice o is.length c] 25))
 have HW0 := hq (Whole.made w 25 #[.int .i64 k, .string (st t), .slice ko kl.length kc, .slice o is.length c])
 clear hx
 go_enter Tryz.func77, Tryz.ntmps77
 go_upto_region 1 with fail
 generalize w.heap.size = g0 at HW0 ⊢
 generalize (w.alloc (.cells #[.int .i64 k, .string (st t), .slice ko kl.length kc, .slice o is.length c] 25)) = V at *
 obtain ⟨c0, c1, c2, c3⟩ := four_cells HW0.o
 by_cases h6 : k = 6
 · have e6 : (k == 6) = true := beq_iff_eq.2 h6
   have e5 : (k == 5) = false := beq_eq_false_iff_ne.2 (by omega)
   have HS : Hq (SM = ixI kl s) := hq (H6.o h6)
   clear H6 H5 HE h6
   go_wp2_with fail
   go_loopw [5] (fun i wr => ∃ j : Nat, j ≤ kl.length ∧ i = .int .i64 (j : Int) ∧ wr = V ∧ Hq (∀ q (hq1 : q < kl.length), q < j → kl[q] ≠ s)) (fun i _ => kl.length - (intOf i).toNat)
   case atStart => exact ⟨0, Nat.zero_le _, rfl, rfl, hq (fun q _ h => absurd h (Nat.not_lt_zero _))⟩
   case round =>
    obtain ⟨j, hj, rfl, rfl, hno⟩ := hrel
    by_cases h : j < kl.length
    · have hz : (j : Int) < (kl.length : Int) := by omega
      obtain ⟨b, f, rfl, m0⟩ := (HKS.o.grow HB0.o) j h
      have HYES : Hq (kl[j] = s → SM = (j : Int)) := hq (fun e => by
       rw [HS.o]
       unfold ixI
       rw [ixOf_first h e (fun q hq1 => hno.o q (by omega) hq1)])
      have HNO2 : Hq (kl[j] ≠ s → ∀ q (hq1 : q < kl.length), q < j + 1 → kl[q] ≠ s) := hq (fun e q h1 h2 => by
       by_cases hqj : q = j
       · subst hqj; exact e
       · exact hno.o q h1 (by omega))
      generalize kl[j] = key at *
      by_cases hk : key = s
      · have e5 : (key == s) = true := beq_iff_eq.2 hk
        have HV := hq (HP.o (j : Int) wr (HYES.o hk) HB0.o)
        clear HYES HNO2 hno HP HS hk HIX HKS
        go_wp2_with fail
        first | exact HV.o | (go_ret; exact HV.o)
      · have e5 : (key == s) = false := beq_eq_false_iff_ne.2 hk
        have HN3 := hq (HNO2.o hk)
        clear HYES HNO2 hno HP HS hk HIX HKS
        go_wp2_with fail
        go_roundw
        case rel => exact ⟨j + 1, h, int_eq (by omega), by first | rfl | trivial, HN3⟩
        case measure => simp [intOf]; omega
    · have hz : ¬ (j : Int) < (kl.length : Int) := by omega
      have HSN : Hq (SM = -1) := hq (by
       rw [HS.o]
       unfold ixI
       rw [ixOf_absent (fun q hq1 => hno.o q hq1 (by omega))])
      have HC := HIX.o wr
      unfold IdxPost at HC
      generalize ((indexM s).getD 0 : Nat) = ix at HC
      generalize (indexM s).isSome = ib at HC
      clear hno HS HIX HKS
      go_wp2_with fail
      refine HC.mono ?_
      rintro e w2 ⟨rfl, hb2⟩
      have HV := hq (HP.o (-1) w2 HSN.o (below_trans HB0.o hb2))
      obtain ⟨d0, d1, d2, d3⟩ := four_cells (HW0.o.grow hb2)
      clear HC hb2 HP HSN c0 c1 c2 c3
      go_wp2_with fail
      first | exact HV.o | (go_ret; exact HV.o)
 · have e6 : (k == 6) = false := beq_eq_false_iff_ne.2 h6
   have HC := HIX.o V
   unfold IdxPost at HC
   generalize hix : ((indexM s).getD 0 : Nat) = ix at HC H5
   generalize hib : (indexM s).isSome = ib at HC H5
   clear HIX H6 hix hib
   go_wp2_with fail
   refine HC.mono ?_
   rintro e w2 ⟨rfl, hb2⟩
   have HB2 := hq (below_trans HB0.o hb2)
   obtain ⟨d0, d1, d2, d3⟩ := four_cells (HW0.o.grow hb2)
   clear HC hb2 c0 c1 c2 c3 HB0 HW0
   by_cases h5 : k = 5
   · have e5 : (k == 5) = true := beq_iff_eq.2 h5
     have HS := hq (H5.o h5)
     clear H5 HE h5 h6
     cases ib with
     | false =>
       have HV := hq (HP.o (-1) w2 (by rw [HS.o]; rfl) HB2.o)
       clear HP HS HB2
       go_wp2_with fail
       first | exact HV.o | (go_ret; exact HV.o)
     | true =>
       by_cases hn : ix < is.length
       · have hnz : (ix : Int) < (is.length : Int) := by omega
         have HV := hq (HP.o (ix : Int) w2 (by rw [HS.o, decide_eq_true hn]; rfl) HB2.o)
         clear HP HS HB2 hn
         go_wp2_with fail
         first | exact HV.o | (go_ret; exact HV.o)
       · have hnz : ¬ (ix : Int) < (is.length : Int) := by omega
         have HV := hq (HP.o (-1) w2 (by rw [HS.o, decide_eq_false hn]; rfl) HB2.o)
         clear HP HS HB2 hn
         go_wp2_with fail
         first | exact HV.o | (go_ret; exact HV.o)
   · have e5 : (k == 5) = false := beq_eq_false_iff_ne.2 h5
     have HV := hq (HP.o (-1) w2 (HE.o h6 h5) HB2.o)
     clear H5 HE h5 h6 HP HB2
     go_wp2_with fail
     first | exact HV.o | (go_ret; exact HV.o)
end Go.Proofs.YtnlkokgekjlmmaaGreatDoor
