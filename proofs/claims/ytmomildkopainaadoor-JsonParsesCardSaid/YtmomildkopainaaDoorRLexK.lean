/-
  WALKS: the document's among, run, Same, Text of layer 4.
  WALKS: the document's token at a byte.
  WALKS: the document's Tokens, Text.
-/
import Derived.Test.YtmomildkopainaaDoorLexAlone
import Derived.Test.YtmomildkopainaaDoorRUnqK
import Derived.Test.YtmomildkopainaaDoorNumK

namespace Go.Proofs.YtmomildkopainaaDoor
open Go.RowKit

def inSet (l : ByteArray) (c : Nat) : Nat → Bool
  | 0 => false
  | k + 1 => inSet l c k || (byt l k == c)
/-- the bytes of S are those of which q tells -/
def SetIn (S : ByteArray) (q : Nat → Bool) : Prop := ∀ c : Nat, c < 256 → inSet S c S.size = q c
theorem inBlank : SetIn setBlank isBlank := by unfold SetIn; decide +kernel
theorem inNum : SetIn setNum isNum := by unfold SetIn; decide +kernel
theorem inLet : SetIn setLet isLet := by unfold SetIn; decide +kernel
abbrev setHead : ByteArray := ⟨#[45, 48, 49, 50, 51, 52, 53, 54, 55, 56, 57]⟩
def isHead (c : Nat) : Bool := c == 45 || (decide (48 ≤ c) && decide (c ≤ 57))
theorem inHead : SetIn setHead isHead := by unfold SetIn; decide +kernel
theorem inSet_mono (l : ByteArray) (c : Nat) : ∀ (n k : Nat), k < n → byt l k = c → inSet l c n = true
  | 0, k, h, _ => absurd h (Nat.not_lt_zero _)
  | n + 1, k, h, hb => by
    unfold inSet
    by_cases hk : k = n
    · subst hk; simp [hb]
    · rw [inSet_mono l c n k (by omega) hb]; rfl

set_option maxHeartbeats 400000 in
set_option maxRecDepth 1000000 in
theorem among_any (S : ByteArray) (c : Nat) (w : World) (hS : S.size ≤ 1000) (_ : c < 256) :
    Calls Tryd.prog 69 #[.int .u8 (c : Int), .string S] w fun e w' => e = .returned (.bool (inSet S c S.size)) ∧ w = w' := by
  have HM := hq (fun k h1 h2 => inSet_mono S c S.size k h1 h2)
  go_enter Tryd.func69, Tryd.ntmps69
  go_wp2_with fail
  go_loop [5] (fun i => ∃ k : Nat, k ≤ S.size ∧ i = .int .i64 (k : Int) ∧ Hq (inSet S c k = false)) (fun i => S.size - (intOf i).toNat)
  case atStart => exact ⟨0, Nat.zero_le _, rfl, hq rfl⟩
  case round =>
    obtain ⟨k, hk, rfl, hin⟩ := hrel
    by_cases hks : k < S.size
    · have y0 : ((S[k]'hks).toNat : Int) = (byt S k : Int) := by rw [byt_eq S k hks]
      by_cases he : byt S k = c
      · have HN := hq (HM.o k hks he)
        have e1 : ((byt S k : Int) == (c : Int)) = true := by rw [he]; exact beq_self_eq_true _
        clear he HM hin
        generalize byt S k = d at *
        go_wp2_with fail
        go_ret
        exact ⟨by rw [HN.o]; rfl, rfl⟩
      · have e1 : ((byt S k : Int) == (c : Int)) = false := beq_eq_false_iff_ne.2 (by omega)
        have HN : Hq (inSet S c (k + 1) = false) := hq (by show (inSet S c k || (byt S k == c)) = false; rw [hin.o, Bool.false_or]; exact beq_eq_false_iff_ne.2 he)
        clear he HM hin
        generalize byt S k = d at *
        go_wp2_with fail
        go_round
        case rel => exact ⟨k + 1, by omega, int_eq (by omega), HN⟩
        case measure => simp [intOf]; omega
    · obtain rfl : k = S.size := by omega
      clear HM
      go_wp2_with fail
      go_ret
      exact ⟨by rw [hin.o]; rfl, rfl⟩

set_option maxHeartbeats 400000 in
set_option maxRecDepth 1000000 in
theorem rrun4_any (S : ByteArray) (q : Nat → Bool) (hS : SetIn S q) (hSz : S.size ≤ 1000) (s : ByteArray) (p : Nat) (w : World) (hs : s.size ≤ 1099511627776) (hp : p ≤ s.size) :
    Calls Tryd.prog 70 #[.string s, .int .i64 (p : Int), .string S] w fun e w' => e = .returned (.int .i64 (runTo s q p : Int)) ∧ w = w' := by
  have HI := hq (fun c (hc : c < 256) W => by have := among_any S c W hSz hc; rw [hS c hc] at this; exact this)
  have HS := hq (fun k h1 h2 => @runTo_step s q k h1 h2)
  have HO := hq (fun k h1 => @runTo_stop s q k h1)
  have HE := hq (fun k h1 => @runTo_end s q k h1)
  generalize hR : runTo s q p = R
  have HR := hq hR
  clear hR hS
  go_enter Tryd.func70, Tryd.ntmps70
  go_wp2_with fail
  go_loop [1] (fun i => ∃ k : Nat, k ≤ s.size ∧ i = .int .i64 (k : Int) ∧ Hq (runTo s q k = R)) (fun i => s.size - (intOf i).toNat)
  case atStart => exact ⟨p, hp, rfl, HR⟩
  case round =>
    obtain ⟨k, hk, rfl, hr⟩ := hrel
    clear HR
    by_cases hks : k < s.size
    · have y0 : ((s[k]'hks).toNat : Int) = (byt s k : Int) := by rw [byt_eq s k hks]
      have HC := hq (HI.o (byt s k) (byt_lt s k))
      have HS2 := hq (HS.o k hks)
      have HO2 := hq (HO.o k)
      clear HS HO HE HI
      generalize byt s k = c at *
      cases hqc : q c with
      | true =>
        rw [hqc] at HC
        have HN : Hq (runTo s q (k + 1) = R) := hq (by rw [← HS2.o hqc]; exact hr.o)
        clear hqc HS2 HO2 hr
        go_wp2_with fail
        refine (HC.o _).mono ?_
        rintro e w' ⟨rfl, hw⟩
        obtain rfl := hw
        go_wp2_with fail
        go_round
        case rel => exact ⟨k + 1, by omega, int_eq (by omega), HN⟩
        case measure => simp [intOf]; omega
      | false =>
        rw [hqc] at HC
        have HN : Hq (k = R) := hq (by rw [← HO2.o hqc]; exact hr.o)
        clear hqc HS2 HO2 hr
        go_wp2_with fail
        refine (HC.o _).mono ?_
        rintro e w' ⟨rfl, hw⟩
        obtain rfl := hw
        go_wp2_with fail
        go_ret
        exact ⟨by rw [← HN.o]; rfl, rfl⟩
    · obtain rfl : k = s.size := by omega
      have HN : Hq (s.size = R) := hq (by rw [← HE.o s.size (Nat.le_refl _)]; exact hr.o)
      clear HI HS HO HE hr
      go_wp2_with fail
      go_ret
      exact ⟨by rw [← HN.o]; rfl, rfl⟩

/-- a row of tokens is held by v -/
def Row (w : World) (v : Value) (l : List Tok) : Prop := ∃ B, w.ownsRow B 61 3 v l.length (tokCells l)
end Go.Proofs.YtmomildkopainaaDoor

namespace Go.Proofs.YtmomildkopainaaDoor
open Go.RowKit

abbrev signsS : ByteArray := ⟨#[123, 125, 91, 93, 44, 58]⟩
theorem sign_hit {k c : Nat} (hk : k < 6) (h : c = byt signsS k) : signM c = 2 + k := by
  subst h
  match k, hk with
  | 0, _ => rfl
  | 1, _ => rfl
  | 2, _ => rfl
  | 3, _ => rfl
  | 4, _ => rfl
  | 5, _ => rfl
theorem sign_miss {c : Nat} (h : ∀ k, k < 6 → c ≠ byt signsS k) : signM c = 0 := by
  have h0 : c ≠ 123 := h 0 (by omega)
  have h1 : c ≠ 125 := h 1 (by omega)
  have h2 : c ≠ 91 := h 2 (by omega)
  have h3 : c ≠ 93 := h 3 (by omega)
  have h4 : c ≠ 44 := h 4 (by omega)
  have h5 : c ≠ 58 := h 5 (by omega)
  unfold signM
  rw [if_neg h0, if_neg h1, if_neg h2, if_neg h3, if_neg h4, if_neg h5]
theorem isHead_iff (c : Nat) : (c = 45 ∨ 48 ≤ c ∧ c ≤ 57) ↔ isHead c = true := by
  unfold isHead
  simp only [Bool.or_eq_true, Bool.and_eq_true, beq_iff_eq, decide_eq_true_eq]

set_option maxHeartbeats 2000000 in
set_option maxRecDepth 1000000 in
theorem rone4_any (s : ByteArray) (p : Nat) (w : World) (hs : s.size ≤ 1099511627776) (hp : p < s.size) :
    Calls Tryd.prog 45 #[.string s, .int .i64 (p : Int)] w (OnePost (oneM s p) w) := by
  have y0 : ((s[p]'hp).toNat : Int) = (byt s p : Int) := by rw [byt_eq s p hp]
  have hcb := byt_lt s p
  have hone : oneM s p = if signM (byt s p) ≠ 0 then (signM (byt s p), p + 1, 0)
    else if isBlank (byt s p) = true then (1, runTo s isBlank p, 0)
    else if byt s p = 34 then (8, (scanM s p).1, (scanM s p).2.1)
    else if byt s p = 45 ∨ 48 ≤ byt s p ∧ byt s p ≤ 57 then
      (if (parseM (sub s p (runTo s isNum p))).2 ≠ 0 then (0, p, (parseM (sub s p (runTo s isNum p))).2) else (9, runTo s isNum p, 0))
    else if wordM (sub s p (runTo s isLet p)) ≠ 0 then (wordM (sub s p (runTo s isLet p)), runTo s isLet p, 0) else (0, p, 2) := rfl
  have HONE := hq hone
  have HHD := hq (isHead_iff (byt s p))
  have HHIT := hq (fun k hk h => @sign_hit k (byt s p) hk h)
  have HMISS := hq (@sign_miss (byt s p))
  have HBI := hq (fun W => by have := among_any setBlank (byt s p) W (by decide) hcb; rw [inBlank _ hcb] at this; exact this)
  have HHI := hq (fun W => by have := among_any setHead (byt s p) W (by decide) hcb; rw [inHead _ hcb] at this; exact this)
  have HRB := hq (fun W => rrun4_any setBlank isBlank inBlank (by decide) s p W hs (by omega))
  have HRN := hq (fun W => rrun4_any setNum isNum inNum (by decide) s p W hs (by omega))
  have HRL := hq (fun W => rrun4_any setLet isLet inLet (by decide) s p W hs (by omega))
  have HEND := hq (fun W => rend_any s (p : Int) W hs (by omega))
  have hendM : endM s (p : Int) = ((scanM s p).1, (scanM s p).2.1) := by unfold endM; rw [if_neg (by omega)]; rfl
  rw [hendM] at HEND
  have hnl := runTo_le s isNum p (by omega)
  have hng := runTo_ge s isNum p
  have hll := runTo_le s isLet p (by omega)
  have hlg := runTo_ge s isLet p
  have HPA := hq (fun W => rparse_any (sub s p (runTo s isNum p)) W (by rw [sub_len _ _ _ hnl]; omega))
  have hst : st (sub s p (runTo s isNum p)) = s.extract p (runTo s isNum p) := st_of _
  rw [hst] at HPA
  have k1 := lit_eq (s.extract p (runTo s isLet p)) [116, 114, 117, 101]
  have k2 := lit_eq (s.extract p (runTo s isLet p)) [102, 97, 108, 115, 101]
  have k3 := lit_eq (s.extract p (runTo s isLet p)) [110, 117, 108, 108]
  have HWO : Hq (wordM (sub s p (runTo s isLet p)) = if (s.extract p (runTo s isLet p)).data.toList = [116, 114, 117, 101] then 10 else if (s.extract p (runTo s isLet p)).data.toList = [102, 97, 108, 115, 101] then 11 else if (s.extract p (runTo s isLet p)).data.toList = [110, 117, 108, 108] then 12 else 0) := hq rfl
  clear hone hendM hst
  generalize oneM s p = R at *
  generalize parseM (sub s p (runTo s isNum p)) = PA at *
  generalize wordM (sub s p (runTo s isLet p)) = WO at *
  generalize runTo s isNum p = RN at *
  generalize runTo s isLet p = RL at *
  generalize runTo s isBlank p = RB at *
  generalize scanM s p = SC at *
  generalize hB : isBlank (byt s p) = BL at *
  generalize hH : isHead (byt s p) = HD at *
  clear hB hH
  generalize hG : signM (byt s p) = SG at *
  clear hG
  generalize byt s p = c at *
  have K1 := hq k1
  have K2 := hq k2
  have K3 := hq k3
  clear k1 k2 k3
  go_enter Tryd.func45, Tryd.ntmps45
  go_wp2_with fail
  go_loop [9] (fun i => ∃ k : Nat, k ≤ 6 ∧ i = .int .i64 (k : Int) ∧ Hq (∀ j, j < k → c ≠ byt signsS j)) (fun i => 6 - (intOf i).toNat)
  case atStart => exact ⟨0, by omega, rfl, hq (fun j h => by omega)⟩
  case round =>
    obtain ⟨k, hk, rfl, hne⟩ := hrel
    by_cases hk6 : k < 6
    · have hkF : k < signsS.size := hk6
      have y2 : ((signsS[k]'hkF).toNat : Int) = (byt signsS k : Int) := by rw [byt_eq signsS k hkF]
      by_cases he : c = byt signsS k
      · have hsg := HHIT.o k hk6 he
        have e1 : ((c : Int) == (byt signsS k : Int)) = true := beq_iff_eq.2 (by omega)
        have HN := hq (HONE.o.trans (if_pos (by omega)))
        have HSG := hq hsg
        clear he hsg HHIT HMISS HONE HBI HHI HRB HRN HRL HEND HPA HWO K1 K2 K3 hne HHD
        generalize byt signsS k = d at *
        go_wp2_with fail
        go_ret3
        exact OnePost.mk HN.o (by have := HSG.o; omega) (by omega) rfl (Below.refl _ _)
      · have e1 : ((c : Int) == (byt signsS k : Int)) = false := beq_eq_false_iff_ne.2 (by omega)
        have HNE : Hq (∀ j, j < k + 1 → c ≠ byt signsS j) := hq (fun j hj => by
          by_cases h : j < k
          · exact hne.o j h
          · obtain rfl : j = k := by omega
            exact he)
        clear he HHIT HMISS HONE HBI HHI HRB HRN HRL HEND HPA HWO K1 K2 K3 hne HHD
        generalize byt signsS k = d at *
        go_wp2_with fail
        go_round
        case rel => exact ⟨k + 1, by omega, int_eq (by omega), HNE⟩
        case measure => simp [intOf]; omega
    · obtain rfl : k = 6 := by omega
      have hsg := HMISS.o hne.o
      have HO2 := hq (HONE.o.trans (if_neg (fun h => h hsg)))
      clear hne HONE HHIT HMISS hsg
      cases BL with
      | true =>
        have HN := hq (HO2.o.trans (if_pos rfl))
        clear HO2 HHI HRN HRL HEND HPA HWO K1 K2 K3 HHD
        go_wp2_with fail
        refine (HBI.o _).mono ?_
        rintro e w' ⟨rfl, hw⟩
        obtain rfl := hw
        clear HBI
        go_wp2_with fail
        refine (HRB.o _).mono ?_
        rintro e w' ⟨rfl, hw⟩
        obtain rfl := hw
        clear HRB
        go_wp2_with fail
        go_ret3
        exact OnePost.mk HN.o rfl rfl rfl (Below.refl _ _)
      | false =>
        have HO3 := hq (HO2.o.trans (if_neg (by decide)))
        clear HO2 HRB
        go_wp2_with fail
        refine (HBI.o _).mono ?_
        rintro e w' ⟨rfl, hw⟩
        obtain rfl := hw
        clear HBI
        by_cases h3 : c = 34
        · have HN := hq (HO3.o.trans (if_pos h3))
          have e3 : ((c : Int) == 34) = true := by rw [h3]; rfl
          clear HO3 h3 HHI HRN HRL HPA HWO K1 K2 K3 HHD
          go_wp2_with fail
          refine (HEND.o _).mono ?_
          rintro e w2 ⟨rfl, hb⟩
          clear HEND
          go_wp2_with fail
          go_ret3
          exact OnePost.mk HN.o rfl rfl rfl hb
        · have HO4 := hq (HO3.o.trans (if_neg h3))
          have e3 : ((c : Int) == 34) = false := beq_eq_false_iff_ne.2 (by omega)
          clear HO3 h3 HEND
          cases HD with
          | true =>
            have HO5 := hq (HO4.o.trans (if_pos (HHD.o.2 rfl)))
            obtain ⟨⟨pn, pd, pe⟩, pr⟩ := PA
            clear HO4 HRL HWO K1 K2 K3 HHD
            go_wp2_with fail
            refine (HHI.o _).mono ?_
            rintro e w' ⟨rfl, hw⟩
            obtain rfl := hw
            clear HHI
            go_wp2_with fail
            refine (HRN.o _).mono ?_
            rintro e w' ⟨rfl, hw⟩
            obtain rfl := hw
            clear HRN
            go_wp2_with fail
            refine (HPA.o _).mono ?_
            rintro e w2 ⟨rfl, hb⟩
            clear HPA
            simp only [Dec.val]
            by_cases hpr : pr = 0
            · have e5 : (pr != 0) = false := by rw [hpr]; rfl
              have HN := hq (HO5.o.trans (if_neg (fun h => h hpr)))
              clear HO5 hpr
              go_wp2_with fail
              go_ret3
              exact OnePost.mk HN.o rfl rfl rfl (hb.alloc (by have := hb.size; omega) _)
            · have e5 : (pr != 0) = true := bne_iff_ne.2 hpr
              have HN := hq (HO5.o.trans (if_pos hpr))
              clear HO5 hpr
              go_wp2_with fail
              go_ret3
              exact OnePost.mk HN.o rfl rfl rfl (hb.alloc (by have := hb.size; omega) _)
          | false =>
            have HO5 := hq (HO4.o.trans (if_neg (fun h => by have := HHD.o.1 h; cases this)))
            clear HO4 HRN HPA HHD
            go_wp2_with fail
            refine (HHI.o _).mono ?_
            rintro e w' ⟨rfl, hw⟩
            obtain rfl := hw
            clear HHI
            go_wp2_with fail
            refine (HRL.o _).mono ?_
            rintro e w' ⟨rfl, hw⟩
            obtain rfl := hw
            clear HRL
            by_cases w1 : (s.extract p RL).data.toList = [116, 114, 117, 101]
            · have j1 := K1.o.trans (decide_eq_true w1)
              have hwo := HWO.o.trans (if_pos w1)
              have HN := hq (HO5.o.trans (if_pos (by omega)))
              have HWO2 := hq hwo
              clear HO5 HWO K1 K2 K3 w1 hwo
              go_wp2_with fail
              go_ret3
              exact OnePost.mk HN.o (by rw [HWO2.o]; rfl) rfl rfl (Below.refl _ _)
            · have j1 := K1.o.trans (decide_eq_false w1)
              by_cases w2 : (s.extract p RL).data.toList = [102, 97, 108, 115, 101]
              · have j2 := K2.o.trans (decide_eq_true w2)
                have hwo := HWO.o.trans ((if_neg w1).trans (if_pos w2))
                have HN := hq (HO5.o.trans (if_pos (by omega)))
                have HWO2 := hq hwo
                clear HO5 HWO K1 K2 K3 w1 w2 hwo
                go_wp2_with fail
                go_ret3
                exact OnePost.mk HN.o (by rw [HWO2.o]; rfl) rfl rfl (Below.refl _ _)
              · have j2 := K2.o.trans (decide_eq_false w2)
                by_cases w3 : (s.extract p RL).data.toList = [110, 117, 108, 108]
                · have j3 := K3.o.trans (decide_eq_true w3)
                  have hwo := HWO.o.trans ((if_neg w1).trans ((if_neg w2).trans (if_pos w3)))
                  have HN := hq (HO5.o.trans (if_pos (by omega)))
                  have HWO2 := hq hwo
                  clear HO5 HWO K1 K2 K3 w1 w2 w3 hwo
                  go_wp2_with fail
                  go_ret3
                  exact OnePost.mk HN.o (by rw [HWO2.o]; rfl) rfl rfl (Below.refl _ _)
                · have j3 := K3.o.trans (decide_eq_false w3)
                  have hwo := HWO.o.trans ((if_neg w1).trans ((if_neg w2).trans (if_neg w3)))
                  have HN := hq (HO5.o.trans (if_neg (fun h => h hwo)))
                  clear HO5 HWO K1 K2 K3 w1 w2 w3 hwo
                  go_wp2_with fail
                  go_ret3
                  exact OnePost.mk HN.o rfl rfl rfl (Below.refl _ _)
end Go.Proofs.YtmomildkopainaaDoor

namespace Go.Proofs.YtmomildkopainaaDoor
open Go.RowKit

theorem toksGo_step {s : ByteArray} {f p : Nat} {acc : List Tok} (h : p < s.size) (he : ¬ (oneM s p).2.2 ≠ 0) : toksGo s (f + 1) p acc = toksGo s f (oneM s p).2.1 (acc ++ [((oneM s p).1, p, (oneM s p).2.1)]) := by
  rw [toksGo, if_pos h, if_neg he]
theorem toksGo_bad {s : ByteArray} {f p : Nat} {acc : List Tok} (h : p < s.size) (he : (oneM s p).2.2 ≠ 0) : toksGo s (f + 1) p acc = (acc, (oneM s p).2.1, (oneM s p).2.2) := by
  rw [toksGo, if_pos h, if_pos he]
theorem toksGo_end {s : ByteArray} {f p : Nat} {acc : List Tok} (h : ¬ p < s.size) : toksGo s f p acc = (acc, p, 0) := by
  cases f with
  | zero => rfl
  | succ f => rw [toksGo, if_neg h]

set_option maxHeartbeats 2000000 in
set_option maxRecDepth 1000000 in
theorem rtokens4_any (s : ByteArray) (w : World) (hsm : s.size ≤ maxLen) : Calls Tryd.prog 25 #[.string s] w (TokPost (tokensM s) w) := by
  obtain ⟨i0, hi, hz0, hz1, hz2⟩ := info_parts infoTok
  unfold maxLen at hsm
  have HD : Hq (tokensM s = if 65536 < s.size then ([], 0, 3) else if (toksM s).2.2 ≠ 0 then ([], (toksM s).2.1, (toksM s).2.2) else ((toksM s).1, s.size, 0)) := hq rfl
  have HG : Hq (toksM s = toksGo s s.size 0 []) := hq rfl
  generalize tokensM s = R at *
  by_cases hl : 65536 < s.size
  · have HN := hq (HD.o.trans (if_pos hl))
    clear HD HG
    go_enter Tryd.func25, Tryd.ntmps25
    go_wp2_with fail
    go_ret3
    exact ⟨.slice none 0 0, by rw [HN.o]; rfl, by rw [HN.o]; exact World.ownsRow_nil _ _ _ _, Below.refl _ _⟩
  · have HD2 := hq (HD.o.trans (if_neg hl))
    have hs : s.size ≤ 1099511627776 := by omega
    generalize toksM s = TM at *
    clear HD
    go_enter Tryd.func25, Tryd.ntmps25
    go_wp2_with fail
    go_loopw [5, 6] (fun v i wr => ∃ (p f : Nat) (acc : List Tok), p ≤ s.size ∧ i = .int .i64 (p : Int) ∧ s.size ≤ p + f ∧ acc.length ≤ p ∧ Hq (TM = toksGo s f p acc) ∧ wr.ownsRow w.heap.size 61 3 v acc.length (tokCells acc) ∧ Below w.heap.size w wr) (fun _ i _ => s.size - (intOf i).toNat)
    case atStart => exact ⟨0, s.size, [], Nat.zero_le _, rfl, by omega, Nat.le_refl _, HG, World.ownsRow_nil _ _ _ _, Below.refl _ _⟩
    case round =>
      obtain ⟨p, f, acc, hp, rfl, hf, hal, htm, hown, hb⟩ := hrel
      clear HG
      by_cases hlt : p < s.size
      · obtain ⟨f, rfl⟩ : ∃ g, f = g + 1 := ⟨f - 1, by omega⟩
        obtain ⟨b1, b2, b3, b4⟩ := oneM_bd s p hlt
        have HO := hq (fun W => rone4_any s p W hs hlt)
        have HS := hq (fun h => htm.o.trans (toksGo_step (f := f) (acc := acc) hlt h))
        have HB := hq (fun h => htm.o.trans (toksGo_bad (f := f) (acc := acc) hlt h))
        clear htm
        generalize oneM s p = o at *
        obtain ⟨k, e, err⟩ := o
        simp only at b1 b2 b3 b4
        have hbs := hb.size
        by_cases he : err ≠ 0
        · have ht := HB.o he
          have e1 : (err != 0) = true := bne_iff_ne.2 he
          have HN : Hq (R = ([], e, err)) := hq (by rw [HD2.o, ht]; exact if_pos he)
          clear HB HS he ht HD2 b4 hown
          go_wp2_with fail
          refine (HO.o _).mono ?_
          rintro e' w2 ⟨rfl, hb2⟩
          replace hb := below_trans hb hb2
          clear HO hb2
          go_wp2_with fail
          go_ret3
          exact ⟨.slice none 0 0, by rw [HN.o]; rfl, by rw [HN.o]; exact World.ownsRow_nil _ _ _ _, hb⟩
        · have he0 : err = 0 := by omega
          have e1 : (err != 0) = false := by rw [he0]; rfl
          have HN := hq (HS.o he)
          have b5 := (b4 he0).1
          clear HB HS he he0 b4
          go_wp2_with fail
          refine (HO.o _).mono ?_
          rintro e' w2 ⟨rfl, hb2⟩
          have hown2 : w2.ownsRow w.heap.size 61 3 _ acc.length (tokCells acc) := hown.kept (row := none) ⟨hb2.os, hb2.tape, hb2.output, hb2.size, fun k hk _ => hb2.block k hk⟩ (Classical.em _)
          have hbs2 := hb2.size
          replace hb := below_trans hb hb2
          clear HO hb2 hown
          go_wp2_with (at_builtin; refine wpList_append_own _ rfl _ _ 54 rfl w.heap.size 61 i0 (.agg #[.int .i64 0, .int .i64 0, .int .i64 0]) 3 24 Tryd.underlying54 hi hz0 hz1 hz2 rfl (by decide) _ _ _ rfl (hown2.alloc _) ⟨w2.heap.size, 0, none⟩ 1 1 [.int .i64 (k : Int), .int .i64 (p : Int), .int .i64 (e : Int)] rfl rfl (cells_of_new _ [.int .i64 (k : Int), .int .i64 (p : Int), .int .i64 (e : Int)] _) (three_ints _ _ _) (by unfold maxLen; omega) (by omega) (by rw [World.size_alloc]; omega) ?_)
          intro v' w3 hown3 hgrow _
          have hb3 := (hb.alloc (by omega) (.cells #[.int .i64 (k : Int), .int .i64 (p : Int), .int .i64 (e : Int)] 61)).grown hgrow (by rw [World.size_alloc]; omega) (fun j ej => (hown2.lt j ej).1)
          go_wp2_with fail
          go_roundw
          case rel => exact ⟨e, f, acc ++ [(k, p, e)], b2, rfl, by omega, by rw [List.length_append, List.length_singleton]; omega, HN, by rw [tokCells_snoc, List.length_append]; exact hown3, hb3⟩
          case measure => simp [intOf]; omega
      · obtain rfl : p = s.size := by omega
        have ht := htm.o.trans (toksGo_end hlt)
        have HN : Hq (R = (acc, s.size, 0)) := hq (by rw [HD2.o, ht]; exact if_neg (fun h => h rfl))
        clear htm ht HD2
        go_wp2_with fail
        go_ret3
        exact ⟨_, by rw [HN.o]; rfl, by rw [HN.o]; exact hown, hb⟩

end Go.Proofs.YtmomildkopainaaDoor
