/-
  WALKS: the document's Int.
-/
import Derived.Test.YtpgdmkhcdfhhaaaDoorNumInt3
namespace Go.Proofs.YtpgdmkhcdfhhaaaDoor
open Go.RowKit

theorem numOf_app (a : Bs) : ∀ b : Bs, b.all isDig = true → numOf a ≤ numOf (a ++ b) ∨ numOf a < 0 := by
  intro b
  induction b generalizing a with
  | nil => intro _; left; rw [List.append_nil]; omega
  | cons c b ih =>
    intro h
    rw [List.all_cons, Bool.and_eq_true] at h
    have hc := h.1
    unfold isDig at hc
    simp only [Bool.and_eq_true, decide_eq_true_eq] at hc
    have h1 := ih (a ++ [c]) h.2
    rw [numOf_snoc, List.append_assoc, List.singleton_append] at h1
    omega
theorem numOf_take_le (T : Bs) (k : Nat) (h : T.all isDig = true) : numOf (T.take k) ≤ numOf T := by
  have h1 : (T.take k).all isDig = true := by rw [List.all_eq_true] at *; exact fun y hy => h y (List.mem_of_mem_take hy)
  have h2 : (T.drop k).all isDig = true := by rw [List.all_eq_true] at *; exact fun y hy => h y (List.mem_of_mem_drop hy)
  have h3 := numOf_app (T.take k) _ h2
  rw [List.take_append_drop] at h3
  have := (numOf_bd _ h1).1
  omega
theorem intV_big (neg : Bool) {v : Int} (h : 9223372036854775808 < v) : intV neg v = (0, false) := by
  cases neg with
  | true => rw [intV_t, if_neg (by omega)]
  | false => rw [intV_f, if_neg (by omega)]

set_option maxHeartbeats 2000000 in
set_option maxRecDepth 1000000 in
theorem rint_any (neg : Bool) (D : Bs) (E : Int) (w : World) (hD : D.length ≤ 1099511627776) (hE : -9223372036854775808 ≤ E ∧ E ≤ 9223372036854775807) :
    Calls Tryd.prog 17 #[.agg #[.bool neg, .string (st D), .int .i64 E]] w (IntPost (intM ⟨neg, D, E⟩) w) := by
  have hrr := fun W => rright_any neg D E W hD hE
  have hbd := @right_bd neg D E
  have hdg := @right_digs neg D E
  generalize hR : intM ⟨neg, D, E⟩ = R
  have HR := hq hR
  clear hR
  unfold intM at HR
  simp only at HR
  generalize Dec.right ⟨neg, D, E⟩ = B at *
  have HRR := hq hrr
  have HBD := hq hbd
  have HDG := hq hdg
  clear hrr hbd hdg
  go_enter Tryd.func17, Tryd.ntmps17
  have hT := one_made w neg D E
  go_wp2_with fail
  refine (HRR.o _).mono ?_
  rintro e w1 ⟨rfl, hb1⟩
  replace hT := hT.grow hb1
  clear hb1
  obtain ⟨c0, c1, c2⟩ := hT.cells
  cases B with
  | false =>
    have HN := hq (HR.o.symm.trans (if_neg (fun h => by cases h.1)))
    clear HR HBD HDG
    go_wp2_with fail
    go_ret2
    exact IntPost.mk HN.o hT.1
  | true =>
    obtain ⟨hl, hE1, hE2⟩ := HBD.o (by trivial)
    by_cases h0 : E < 0
    · have HN := hq (HR.o.symm.trans (if_neg (fun h => by have := h.2.1; omega)))
      clear HR HBD HDG
      go_wp2_with fail
      go_ret2
      exact IntPost.mk HN.o hT.1
    · by_cases h19 : 19 < (D.length : Int) + E
      · have HN := hq (HR.o.symm.trans (if_neg (fun h => by have := h.2.2; omega)))
        clear HR HBD HDG
        go_wp2_with fail
        go_ret2
        exact IntPost.mk HN.o hT.1
      · have HN := hq (HR.o.symm.trans (if_pos ⟨rfl, by omega, by omega⟩))
        clear HR HBD
        obtain ⟨z, rfl⟩ := Int.eq_ofNat_of_zero_le (a := E) (by omega)
        have HN2 : Hq (R = intV neg (numOf (D ++ List.replicate z 48))) := hq HN.o
        have HA : Hq ((D ++ List.replicate z 48).all isDig = true) := hq (by rw [List.all_append, HDG.o (by trivial), replicate_dig]; rfl)
        have hTl : Hq ((D ++ List.replicate z 48).length = D.length + z) := hq (by rw [List.length_append, List.length_replicate])
        have HG1 : Hq (∀ k (h : k < D.length) (h' : k < (D ++ List.replicate z 48).length), (D ++ List.replicate z 48)[k] = D[k]) := hq (fun k h h' => List.getElem_append_left h)
        have HG2 : Hq (∀ k (_ : D.length ≤ k) (h' : k < (D ++ List.replicate z 48).length), (D ++ List.replicate z 48)[k] = 48) := hq (fun k h h' => by rw [List.getElem_append_right h, List.getElem_replicate])
        generalize D ++ List.replicate z 48 = T at *
        clear HN HDG
        go_wp2_with fail
        go_loopg [5, 6] (D.length + z) (fun g v i wx => ∃ k : Nat, i = .int .i64 k ∧ k + g = D.length + z ∧ v = .int .i64 (-(numOf (T.take k))) ∧ numOf (T.take k) ≤ 9223372036854775808 ∧ wx = w1)
        case atStart => exact ⟨0, rfl, by omega, rfl, by simp [numOf], rfl⟩
        case round =>
          obtain ⟨k, rfl, hk, rfl, hv, rfl⟩ := hrel
          by_cases hlt : k < D.length + z
          · have hkT : k < T.length := by have := hTl.o; omega
            have hb0 : 0 ≤ numOf (T.take k) := (numOf_bd _ (by have := HA.o; rw [List.all_eq_true] at *; exact fun y hy => this y (List.mem_of_mem_take hy))).1
            have HSN : Hq (numOf (T.take (k + 1)) = numOf (T.take k) * 10 + ((T[k].toNat : Int) - 48)) := hq (by rw [List.take_succ_eq_append_getElem hkT, numOf_snoc])
            have HTK : Hq (48 ≤ T[k].toNat ∧ T[k].toNat ≤ 57) := hq (by
              have := List.all_eq_true.1 HA.o T[k] (List.getElem_mem hkT)
              unfold isDig at this
              simpa only [Bool.and_eq_true, decide_eq_true_eq] using this)
            have HLE : Hq (numOf (T.take (k + 1)) ≤ numOf T) := hq (numOf_take_le T (k + 1) HA.o)
            generalize numOf (T.take k) = V at *
            generalize hV' : numOf (T.take (k + 1)) = V' at *
            have HV' := hq hV'
            clear hV'
            have hlt2 : (k : Int) < (D.length : Int) + (z : Int) := by omega
            go_upto_if 40 with fail
            go_cut [7] from 26 to 55 (fun d wx => d = .int .i64 ((T[k].toNat : Int) - 48) ∧ wx = wr)
            case first =>
              by_cases hkd : k < D.length
              · have hz : k < (st D).size := by rw [st_size]; exact hkd
                have hTD : T[k] = D[k] := HG1.o k hkd hkT
                have hdk : 48 ≤ ((st D)[k]'hz).toNat ∧ ((st D)[k]'hz).toNat ≤ 57 := by have := HTK.o; rw [hTD] at this; exact this
                have hwr := dig_sub hdk.1 hdk.2
                have HF : Hq ((T[k].toNat : Int) = (((st D)[k]'hz).toNat : Int)) := hq (by rw [hTD]; rfl)
                generalize hX : ((st D)[k]'hz).toNat = c at *
                have hy : (((st D)[k]'hz).toNat : Int) = (c : Int) := by rw [hX]
                clear hX hTD
                obtain ⟨hd1, hd2⟩ := hdk
                go_wp2_with fail
                go_meet
                exact ⟨int_eq (by rw [HF.o]), rfl⟩
              · have HF : Hq ((T[k].toNat : Int) - 48 = 0) := hq (by rw [HG2.o k (by omega) hkT]; rfl)
                go_wp2_with fail
                go_meet
                exact ⟨int_eq (by rw [HF.o]), rfl⟩
            case rest =>
              obtain ⟨rfl, rfl⟩ := hcut
              obtain ⟨ht1, ht2⟩ := HTK.o
              have HSN2 : Hq (V' = V * 10 + ((T[k].toNat : Int) - 48)) := HSN
              clear HSN HTK
              have hd0 : (0 : Int) ≤ (T[k].toNat : Int) - 48 ∧ (T[k].toNat : Int) - 48 ≤ 9 := by omega
              generalize (T[k].toNat : Int) - 48 = d at *
              obtain ⟨hd1, hd2⟩ := hd0
              clear ht1 ht2
              have ht : ((-9223372036854775808 : Int) + d).tdiv 10 = -((9223372036854775808 - d) / 10) := by
                rw [show (-9223372036854775808 : Int) + d = -(9223372036854775808 - d) by omega, Int.neg_tdiv, Int.tdiv_eq_ediv_of_nonneg (by omega)]
              by_cases hbig : (9223372036854775808 - d) / 10 < V
              · have HN : Hq (R = (0, false)) := hq (by
                  have h1 := HLE.o
                  have h2 := HSN2.o
                  rw [HN2.o]
                  exact intV_big neg (by omega))
                clear HN2
                go_wp2_with fail
                go_ret2
                exact IntPost.mk HN.o hT.1
              · have HB : Hq (V' ≤ 9223372036854775808) := hq (by have h2 := HSN2.o; omega)
                have HE : Hq (10 * -V - d = -V') := hq (by have h2 := HSN2.o; omega)
                clear HN2
                go_wp2_with fail
                go_roundg (gk - 1)
                case rel => exact ⟨k + 1, rfl, by omega, by rw [HV'.o]; exact int_eq HE.o, by rw [HV'.o]; exact HB.o, rfl⟩
                case measure => omega
          · have hke : k = T.length := by have := hTl.o; omega
            have hkd : (D.length : Int) + (z : Int) ≤ (k : Int) := by omega
            have hkd2 : (k : Int) ≤ (D.length : Int) + (z : Int) := by omega
            have hb0 : 0 ≤ numOf T := (numOf_bd _ HA.o).1
            have HK : Hq (T.take k = T) := hq (by rw [hke, List.take_length])
            rw [HK.o] at hv ⊢
            generalize numOf T = V at *
            clear hke
            cases neg with
            | true =>
              have HN : Hq (R = (-V, true)) := hq (by rw [HN2.o, intV_t, if_pos hv])
              clear HN2
              go_wp2_with fail
              go_ret2
              exact IntPost.mk HN.o hT.1
            | false =>
              by_cases hm : V = 9223372036854775808
              · have HN : Hq (R = (0, false)) := hq (by rw [HN2.o, intV_f, if_neg (by omega)])
                subst hm
                clear HN2
                go_wp2_with fail
                go_ret2
                exact IntPost.mk HN.o hT.1
              · have HN : Hq (R = (V, true)) := hq (by rw [HN2.o, intV_f, if_pos (by omega)])
                have hm2 : (-V == -9223372036854775808) = false := beq_eq_false_iff_ne.2 (by omega)
                have hm3 : V ≤ 9223372036854775807 := by omega
                clear HN2
                go_wp2_with fail
                go_ret2
                exact IntPost.mk HN.o hT.1
end Go.Proofs.YtpgdmkhcdfhhaaaDoor
