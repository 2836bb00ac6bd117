/-
  WALKS: the document's token at a byte.
-/
import Derived.Test.YtinenhnfhdeidaaDoorRLex
import Derived.Test.YtinenhnfhdeidaaDoorRUnqR
import Derived.Test.YtinenhnfhdeidaaDoorNumRefQ
namespace Go.Proofs.YtinenhnfhdeidaaDoor
open Go.RowKit

abbrev signsS : ByteArray := ⟨#[123, 125, 91, 93, 44, 58]⟩
theorem sign_hit {k c : Nat} (hk : k < 6) (h : c = byt signsS k) : signM c = 2 + k := by
  subst h
  match k, hk with
  | 0, _ => rfl
  | 1, _ => rfl
  | 2, _ => rfl
  | 3, _ => rfl
  | 4, _ => rfl
  | 5, _ => rfl
theorem sign_miss {c : Nat} (h : ∀ k, k < 6 → c ≠ byt signsS k) : signM c = 0 := by
  have h0 : c ≠ 123 := h 0 (by omega)
  have h1 : c ≠ 125 := h 1 (by omega)
  have h2 : c ≠ 91 := h 2 (by omega)
  have h3 : c ≠ 93 := h 3 (by omega)
  have h4 : c ≠ 44 := h 4 (by omega)
  have h5 : c ≠ 58 := h 5 (by omega)
  unfold signM
  rw [if_neg h0, if_neg h1, if_neg h2, if_neg h3, if_neg h4, if_neg h5]
theorem isHead_iff (c : Nat) : (c = 45 ∨ 48 ≤ c ∧ c ≤ 57) ↔ isHead c = true := by
  unfold isHead
  simp only [Bool.or_eq_true, Bool.and_eq_true, beq_iff_eq, decide_eq_true_eq]

set_option maxHeartbeats 2000000 in
set_option maxRecDepth 1000000 in
theorem rone4_any (s : ByteArray) (p : Nat) (w : World) (hs : s.size ≤ 1099511627776) (hp : p < s.size) :
    Calls Tryd.prog 32 #[.string s, .int .i64 (p : Int)] w (OnePost (oneM s p) w) := by
  have y0 : ((s[p]'hp).toNat : Int) = (byt s p : Int) := by rw [byt_eq s p hp]
  have hcb := byt_lt s p
  have hone : oneM s p = if signM (byt s p) ≠ 0 then (signM (byt s p), p + 1, 0)
    else if isBlank (byt s p) = true then (1, runTo s isBlank p, 0)
    else if byt s p = 34 then (8, (scanM s p).1, (scanM s p).2.1)
    else if byt s p = 45 ∨ 48 ≤ byt s p ∧ byt s p ≤ 57 then
      (if (parseM (sub s p (runTo s isNum p))).2 ≠ 0 then (0, p, (parseM (sub s p (runTo s isNum p))).2) else (9, runTo s isNum p, 0))
    else if wordM (sub s p (runTo s isLet p)) ≠ 0 then (wordM (sub s p (runTo s isLet p)), runTo s isLet p, 0) else (0, p, 2) := rfl
  have HONE := hq hone
  have HHD := hq (isHead_iff (byt s p))
  have HHIT := hq (fun k hk h => @sign_hit k (byt s p) hk h)
  have HMISS := hq (@sign_miss (byt s p))
  have HBI := hq (fun W => by have := among_any setBlank (byt s p) W (by decide) hcb; rw [inBlank _ hcb] at this; exact this)
  have HHI := hq (fun W => by have := among_any setHead (byt s p) W (by decide) hcb; rw [inHead _ hcb] at this; exact this)
  have HRB := hq (fun W => rrun4_any setBlank isBlank inBlank (by decide) s p W hs (by omega))
  have HRN := hq (fun W => rrun4_any setNum isNum inNum (by decide) s p W hs (by omega))
  have HRL := hq (fun W => rrun4_any setLet isLet inLet (by decide) s p W hs (by omega))
  have HEND := hq (fun W => rend_any s (p : Int) W hs (by omega))
  have hendM : endM s (p : Int) = ((scanM s p).1, (scanM s p).2.1) := by unfold endM; rw [if_neg (by omega)]; rfl
  rw [hendM] at HEND
  have hnl := runTo_le s isNum p (by omega)
  have hng := runTo_ge s isNum p
  have hll := runTo_le s isLet p (by omega)
  have hlg := runTo_ge s isLet p
  have HPA := hq (fun W => rparse_any (sub s p (runTo s isNum p)) W (by rw [sub_len _ _ _ hnl]; omega))
  have hst : st (sub s p (runTo s isNum p)) = s.extract p (runTo s isNum p) := st_of _
  rw [hst] at HPA
  have k1 := lit_eq (s.extract p (runTo s isLet p)) [116, 114, 117, 101]
  have k2 := lit_eq (s.extract p (runTo s isLet p)) [102, 97, 108, 115, 101]
  have k3 := lit_eq (s.extract p (runTo s isLet p)) [110, 117, 108, 108]
  have HWO : Hq (wordM (sub s p (runTo s isLet p)) = if (s.extract p (runTo s isLet p)).data.toList = [116, 114, 117, 101] then 10 else if (s.extract p (runTo s isLet p)).data.toList = [102, 97, 108, 115, 101] then 11 else if (s.extract p (runTo s isLet p)).data.toList = [110, 117, 108, 108] then 12 else 0) := hq rfl
  clear hone hendM hst
  generalize oneM s p = R at *
  generalize parseM (sub s p (runTo s isNum p)) = PA at *
  generalize wordM (sub s p (runTo s isLet p)) = WO at *
  generalize runTo s isNum p = RN at *
  generalize runTo s isLet p = RL at *
  generalize runTo s isBlank p = RB at *
  generalize scanM s p = SC at *
  generalize hB : isBlank (byt s p) = BL at *
  generalize hH : isHead (byt s p) = HD at *
  clear hB hH
  generalize hG : signM (byt s p) = SG at *
  clear hG
  generalize byt s p = c at *
  have K1 := hq k1
  have K2 := hq k2
  have K3 := hq k3
  clear k1 k2 k3
  go_enter Tryd.func32, Tryd.ntmps32
  go_wp2_with fail
  go_loop [9] (fun i => ∃ k : Nat, k ≤ 6 ∧ i = .int .i64 (k : Int) ∧ Hq (∀ j, j < k → c ≠ byt signsS j)) (fun i => 6 - (intOf i).toNat)
  case atStart => exact ⟨0, by omega, rfl, hq (fun j h => by omega)⟩
  case round =>
    obtain ⟨k, hk, rfl, hne⟩ := hrel
    by_cases hk6 : k < 6
    · have hkF : k < signsS.size := hk6
      have y2 : ((signsS[k]'hkF).toNat : Int) = (byt signsS k : Int) := by rw [byt_eq signsS k hkF]
      by_cases he : c = byt signsS k
      · have hsg := HHIT.o k hk6 he
        have e1 : ((c : Int) == (byt signsS k : Int)) = true := beq_iff_eq.2 (by omega)
        have HN := hq (HONE.o.trans (if_pos (by omega)))
        have HSG := hq hsg
        clear he hsg HHIT HMISS HONE HBI HHI HRB HRN HRL HEND HPA HWO K1 K2 K3 hne HHD
        generalize byt signsS k = d at *
        go_wp2_with fail
        go_ret3
        exact OnePost.mk HN.o (by have := HSG.o; omega) (by omega) rfl (Below.refl _ _)
      · have e1 : ((c : Int) == (byt signsS k : Int)) = false := beq_eq_false_iff_ne.2 (by omega)
        have HNE : Hq (∀ j, j < k + 1 → c ≠ byt signsS j) := hq (fun j hj => by
          by_cases h : j < k
          · exact hne.o j h
          · obtain rfl : j = k := by omega
            exact he)
        clear he HHIT HMISS HONE HBI HHI HRB HRN HRL HEND HPA HWO K1 K2 K3 hne HHD
        generalize byt signsS k = d at *
        go_wp2_with fail
        go_round
        case rel => exact ⟨k + 1, by omega, int_eq (by omega), HNE⟩
        case measure => simp [intOf]; omega
    · obtain rfl : k = 6 := by omega
      have hsg := HMISS.o hne.o
      have HO2 := hq (HONE.o.trans (if_neg (fun h => h hsg)))
      clear hne HONE HHIT HMISS hsg
      cases BL with
      | true =>
        have HN := hq (HO2.o.trans (if_pos rfl))
        clear HO2 HHI HRN HRL HEND HPA HWO K1 K2 K3 HHD
        go_wp2_with fail
        refine (HBI.o _).mono ?_
        rintro e w' ⟨rfl, hw⟩
        obtain rfl := hw
        clear HBI
        go_wp2_with fail
        refine (HRB.o _).mono ?_
        rintro e w' ⟨rfl, hw⟩
        obtain rfl := hw
        clear HRB
        go_wp2_with fail
        go_ret3
        exact OnePost.mk HN.o rfl rfl rfl (Below.refl _ _)
      | false =>
        have HO3 := hq (HO2.o.trans (if_neg (by decide)))
        clear HO2 HRB
        go_wp2_with fail
        refine (HBI.o _).mono ?_
        rintro e w' ⟨rfl, hw⟩
        obtain rfl := hw
        clear HBI
        by_cases h3 : c = 34
        · have HN := hq (HO3.o.trans (if_pos h3))
          have e3 : ((c : Int) == 34) = true := by rw [h3]; rfl
          clear HO3 h3 HHI HRN HRL HPA HWO K1 K2 K3 HHD
          go_wp2_with fail
          refine (HEND.o _).mono ?_
          rintro e w2 ⟨rfl, hb⟩
          clear HEND
          go_wp2_with fail
          go_ret3
          exact OnePost.mk HN.o rfl rfl rfl hb
        · have HO4 := hq (HO3.o.trans (if_neg h3))
          have e3 : ((c : Int) == 34) = false := beq_eq_false_iff_ne.2 (by omega)
          clear HO3 h3 HEND
          cases HD with
          | true =>
            have HO5 := hq (HO4.o.trans (if_pos (HHD.o.2 rfl)))
            obtain ⟨⟨pn, pd, pe⟩, pr⟩ := PA
            clear HO4 HRL HWO K1 K2 K3 HHD
            go_wp2_with fail
            refine (HHI.o _).mono ?_
            rintro e w' ⟨rfl, hw⟩
            obtain rfl := hw
            clear HHI
            go_wp2_with fail
            refine (HRN.o _).mono ?_
            rintro e w' ⟨rfl, hw⟩
            obtain rfl := hw
            clear HRN
            go_wp2_with fail
            refine (HPA.o _).mono ?_
            rintro e w2 ⟨rfl, hb⟩
            clear HPA
            simp only [Dec.val]
            by_cases hpr : pr = 0
            · have e5 : (pr != 0) = false := by rw [hpr]; rfl
              have HN := hq (HO5.o.trans (if_neg (fun h => h hpr)))
              clear HO5 hpr
              go_wp2_with fail
              go_ret3
              exact OnePost.mk HN.o rfl rfl rfl (hb.alloc (by have := hb.size; omega) _)
            · have e5 : (pr != 0) = true := bne_iff_ne.2 hpr
              have HN := hq (HO5.o.trans (if_pos hpr))
              clear HO5 hpr
              go_wp2_with fail
              go_ret3
              exact OnePost.mk HN.o rfl rfl rfl (hb.alloc (by have := hb.size; omega) _)
          | false =>
            have HO5 := hq (HO4.o.trans (if_neg (fun h => by have := HHD.o.1 h; cases this)))
            clear HO4 HRN HPA HHD
            go_wp2_with fail
            refine (HHI.o _).mono ?_
            rintro e w' ⟨rfl, hw⟩
            obtain rfl := hw
            clear HHI
            go_wp2_with fail
            refine (HRL.o _).mono ?_
            rintro e w' ⟨rfl, hw⟩
            obtain rfl := hw
            clear HRL
            by_cases w1 : (s.extract p RL).data.toList = [116, 114, 117, 101]
            · have j1 := K1.o.trans (decide_eq_true w1)
              have hwo := HWO.o.trans (if_pos w1)
              have HN := hq (HO5.o.trans (if_pos (by omega)))
              have HWO2 := hq hwo
              clear HO5 HWO K1 K2 K3 w1 hwo
              go_wp2_with fail
              go_ret3
              exact OnePost.mk HN.o (by rw [HWO2.o]; rfl) rfl rfl (Below.refl _ _)
            · have j1 := K1.o.trans (decide_eq_false w1)
              by_cases w2 : (s.extract p RL).data.toList = [102, 97, 108, 115, 101]
              · have j2 := K2.o.trans (decide_eq_true w2)
                have hwo := HWO.o.trans ((if_neg w1).trans (if_pos w2))
                have HN := hq (HO5.o.trans (if_pos (by omega)))
                have HWO2 := hq hwo
                clear HO5 HWO K1 K2 K3 w1 w2 hwo
                go_wp2_with fail
                go_ret3
                exact OnePost.mk HN.o (by rw [HWO2.o]; rfl) rfl rfl (Below.refl _ _)
              · have j2 := K2.o.trans (decide_eq_false w2)
                by_cases w3 : (s.extract p RL).data.toList = [110, 117, 108, 108]
                · have j3 := K3.o.trans (decide_eq_true w3)
                  have hwo := HWO.o.trans ((if_neg w1).trans ((if_neg w2).trans (if_pos w3)))
                  have HN := hq (HO5.o.trans (if_pos (by omega)))
                  have HWO2 := hq hwo
                  clear HO5 HWO K1 K2 K3 w1 w2 w3 hwo
                  go_wp2_with fail
                  go_ret3
                  exact OnePost.mk HN.o (by rw [HWO2.o]; rfl) rfl rfl (Below.refl _ _)
                · have j3 := K3.o.trans (decide_eq_false w3)
                  have hwo := HWO.o.trans ((if_neg w1).trans ((if_neg w2).trans (if_neg w3)))
                  have HN := hq (HO5.o.trans (if_neg (fun h => h hwo)))
                  clear HO5 HWO K1 K2 K3 w1 w2 w3 hwo
                  go_wp2_with fail
                  go_ret3
                  exact OnePost.mk HN.o rfl rfl rfl (Below.refl _ _)
end Go.Proofs.YtinenhnfhdeidaaDoor
