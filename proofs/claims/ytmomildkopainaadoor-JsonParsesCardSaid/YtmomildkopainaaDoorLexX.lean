/-
  WALKS: lex.sign, lex.word, lex.run.
  WALKS: lex.next.
  WALKS: lex.All, and the iterator that it hands back.
-/
import Derived.Test.YtmomildkopainaaDoorLexK
import Derived.Test.YtmomildkopainaaDoorShelf
import Derived.Test.YtmomildkopainaaDoorUnqEnd
import Derived.RangeFuncNested
import Derived.RangeFuncBound
import Derived.RangeFuncCalls
import Derived.RangeFuncLeaves
import Derived.Shelf.Abstract
import Derived.Shelf.RegionOpen
import Derived.OwnWalkIn
import Derived.TacticsInMore
import Derived.LoopNIn
import Derived.LoopIn
import Derived.Maps.AppendAt

namespace Go.Proofs.YtmomildkopainaaDoor
open Go.RowKit

set_option maxHeartbeats 400000 in
theorem sign4_any (c : Nat) (w : World) : Calls Tryd.prog 106 #[.int .u8 (c : Int)] w fun e w' => e = .returned (.int .i64 (signM c : Int)) ∧ w = w' := by
  have HN : Hq (signM c = if c = 123 then 2 else if c = 125 then 3 else if c = 91 then 4 else if c = 93 then 5 else if c = 44 then 6 else if c = 58 then 7 else 0) := hq rfl
  generalize signM c = R at *
  by_cases h1 : c = 123
  · have HN2 := hq (HN.o.trans (if_pos h1))
    have e1 : ((c : Int) == 123) = true := by rw [h1]; rfl
    clear HN h1
    go_enter Tryd.func106, Tryd.ntmps106
    go_wp2_with fail
    go_ret
    exact ⟨by rw [HN2.o]; rfl, rfl⟩
  · have HN2 := hq (HN.o.trans (if_neg h1))
    have e1 : ((c : Int) == 123) = false := beq_eq_false_iff_ne.2 (by omega)
    clear HN h1
    by_cases h1 : c = 125
    · have HN := hq (HN2.o.trans (if_pos h1))
      have e2 : ((c : Int) == 125) = true := by rw [h1]; rfl
      clear HN2 h1
      go_enter Tryd.func106, Tryd.ntmps106
      go_wp2_with fail
      go_ret
      exact ⟨by rw [HN.o]; rfl, rfl⟩
    · have HN := hq (HN2.o.trans (if_neg h1))
      have e2 : ((c : Int) == 125) = false := beq_eq_false_iff_ne.2 (by omega)
      clear HN2 h1
      by_cases h1 : c = 91
      · have HN2 := hq (HN.o.trans (if_pos h1))
        have e3 : ((c : Int) == 91) = true := by rw [h1]; rfl
        clear HN h1
        go_enter Tryd.func106, Tryd.ntmps106
        go_wp2_with fail
        go_ret
        exact ⟨by rw [HN2.o]; rfl, rfl⟩
      · have HN2 := hq (HN.o.trans (if_neg h1))
        have e3 : ((c : Int) == 91) = false := beq_eq_false_iff_ne.2 (by omega)
        clear HN h1
        by_cases h1 : c = 93
        · have HN := hq (HN2.o.trans (if_pos h1))
          have e4 : ((c : Int) == 93) = true := by rw [h1]; rfl
          clear HN2 h1
          go_enter Tryd.func106, Tryd.ntmps106
          go_wp2_with fail
          go_ret
          exact ⟨by rw [HN.o]; rfl, rfl⟩
        · have HN := hq (HN2.o.trans (if_neg h1))
          have e4 : ((c : Int) == 93) = false := beq_eq_false_iff_ne.2 (by omega)
          clear HN2 h1
          by_cases h1 : c = 44
          · have HN2 := hq (HN.o.trans (if_pos h1))
            have e5 : ((c : Int) == 44) = true := by rw [h1]; rfl
            clear HN h1
            go_enter Tryd.func106, Tryd.ntmps106
            go_wp2_with fail
            go_ret
            exact ⟨by rw [HN2.o]; rfl, rfl⟩
          · have HN2 := hq (HN.o.trans (if_neg h1))
            have e5 : ((c : Int) == 44) = false := beq_eq_false_iff_ne.2 (by omega)
            clear HN h1
            by_cases h1 : c = 58
            · have HN := hq (HN2.o.trans (if_pos h1))
              have e6 : ((c : Int) == 58) = true := by rw [h1]; rfl
              clear HN2 h1
              go_enter Tryd.func106, Tryd.ntmps106
              go_wp2_with fail
              go_ret
              exact ⟨by rw [HN.o]; rfl, rfl⟩
            · have HN := hq (HN2.o.trans (if_neg h1))
              have e6 : ((c : Int) == 58) = false := beq_eq_false_iff_ne.2 (by omega)
              clear HN2 h1
              go_enter Tryd.func106, Tryd.ntmps106
              go_wp2_with fail
              go_ret
              exact ⟨by rw [HN.o]; rfl, rfl⟩

theorem lit_eq (t : ByteArray) (l : Bs) : (t.toList == l) = decide (t.data.toList = l) := by
  rw [ByteArray.toList_eq, Bool.eq_iff_iff, beq_iff_eq, decide_eq_true_iff]
set_option maxHeartbeats 400000 in
theorem word4_any (t : ByteArray) (w : World) : Calls Tryd.prog 109 #[.string t] w fun e w' => e = .returned (.int .i64 (wordM t.data.toList : Int)) ∧ w = w' := by
  have HN : Hq (wordM t.data.toList = if t.data.toList = [116, 114, 117, 101] then 10 else if t.data.toList = [102, 97, 108, 115, 101] then 11 else if t.data.toList = [110, 117, 108, 108] then 12 else 0) := hq rfl
  generalize wordM t.data.toList = R at *
  have e1 := lit_eq t [116, 114, 117, 101]
  have e2 := lit_eq t [102, 97, 108, 115, 101]
  have e3 := lit_eq t [110, 117, 108, 108]
  by_cases h1 : t.data.toList = [116, 114, 117, 101]
  · have HN2 := hq (HN.o.trans (if_pos h1))
    rw [decide_eq_true h1] at e1
    clear HN h1 e2 e3
    go_enter Tryd.func109, Tryd.ntmps109
    go_wp2_with fail
    go_ret
    exact ⟨by rw [HN2.o]; rfl, rfl⟩
  · have HN2 := hq (HN.o.trans (if_neg h1))
    rw [decide_eq_false h1] at e1
    clear HN h1
    by_cases h1 : t.data.toList = [102, 97, 108, 115, 101]
    · have HN := hq (HN2.o.trans (if_pos h1))
      rw [decide_eq_true h1] at e2
      clear HN2 h1 e3
      go_enter Tryd.func109, Tryd.ntmps109
      go_wp2_with fail
      go_ret
      exact ⟨by rw [HN.o]; rfl, rfl⟩
    · have HN := hq (HN2.o.trans (if_neg h1))
      rw [decide_eq_false h1] at e2
      clear HN2 h1
      by_cases h1 : t.data.toList = [110, 117, 108, 108]
      · have HN2 := hq (HN.o.trans (if_pos h1))
        rw [decide_eq_true h1] at e3
        clear HN h1
        go_enter Tryd.func109, Tryd.ntmps109
        go_wp2_with fail
        go_ret
        exact ⟨by rw [HN2.o]; rfl, rfl⟩
      · have HN2 := hq (HN.o.trans (if_neg h1))
        rw [decide_eq_false h1] at e3
        clear HN h1
        go_enter Tryd.func109, Tryd.ntmps109
        go_wp2_with fail
        go_ret
        exact ⟨by rw [HN2.o]; rfl, rfl⟩

/-- the bytes of S are those of which q tells -/
def SetIs (S : ByteArray) (q : Nat → Bool) : Prop := ∀ c : Nat, c < 256 → (decide (0 ≤ Lib.indexByte S.data.toList ((c : Int)).toNat.toUInt8) = q c)
abbrev setBlank : ByteArray := ⟨#[32, 9, 10, 13]⟩
abbrev setNum : ByteArray := ⟨#[45, 43, 46, 48, 49, 50, 51, 52, 53, 54, 55, 56, 57, 101, 69]⟩
abbrev setLet : ByteArray := ⟨#[97, 98, 99, 100, 101, 102, 103, 104, 105, 106, 107, 108, 109, 110, 111, 112, 113, 114, 115, 116, 117, 118, 119, 120, 121, 122]⟩
theorem setBlank_is : SetIs setBlank isBlank := by unfold SetIs; decide +kernel
theorem setNum_is : SetIs setNum isNum := by unfold SetIs; decide +kernel
theorem setLet_is : SetIs setLet isLet := by unfold SetIs; decide +kernel
theorem index_any (S : ByteArray) (q : Nat → Bool) (h : SetIs S q) (c : Nat) (hc : c < 256) : ∃ I : Int, (∀ W, Calls Tryd.prog 40 #[.string S, .int .u8 (c : Int)] W fun e w' => e = .returned (.int .i64 I) ∧ W = w') ∧ (q c = true → 0 ≤ I) ∧ (q c = false → I < 0) := by
  refine ⟨_, fun W => (Tryd.strings_IndexByte S (c : Int) W).mono fun e w' hh => ⟨hh.1, hh.2.symm⟩, fun hq1 => ?_, fun hq1 => ?_⟩
  · have := h c hc
    rw [hq1] at this
    exact of_decide_eq_true this
  · have := h c hc
    rw [hq1] at this
    have := of_decide_eq_false this
    omega

set_option maxHeartbeats 400000 in
set_option maxRecDepth 1000000 in
theorem run4_any (S : ByteArray) (q : Nat → Bool) (hS : SetIs S q) (s : ByteArray) (p : Nat) (w : World) (hs : s.size ≤ 1099511627776) (hp : p ≤ s.size) :
    Calls Tryd.prog 107 #[.string s, .int .i64 (p : Int), .string S] w fun e w' => e = .returned (.int .i64 (runTo s q p : Int)) ∧ w = w' := by
  have HI := hq (index_any S q hS)
  have HS := hq (fun k h1 h2 => @runTo_step s q k h1 h2)
  have HO := hq (fun k h1 => @runTo_stop s q k h1)
  have HE := hq (fun k h1 => @runTo_end s q k h1)
  generalize hR : runTo s q p = R
  have HR := hq hR
  clear hR hS
  go_enter Tryd.func107, Tryd.ntmps107
  go_wp2_with fail
  go_loop [1] (fun i => ∃ k : Nat, k ≤ s.size ∧ i = .int .i64 (k : Int) ∧ Hq (runTo s q k = R)) (fun i => s.size - (intOf i).toNat)
  case atStart => exact ⟨p, hp, rfl, HR⟩
  case round =>
    obtain ⟨k, hk, rfl, hr⟩ := hrel
    clear HR
    by_cases hks : k < s.size
    · have y0 : ((s[k]'hks).toNat : Int) = (byt s k : Int) := by rw [byt_eq s k hks]
      obtain ⟨I, hI, i1, i2⟩ := HI.o (byt s k) (byt_lt s k)
      have HC := hq hI
      have HS2 := hq (HS.o k hks)
      have HO2 := hq (HO.o k)
      clear hI HS HO HE HI
      generalize byt s k = c at *
      cases hqc : q c with
      | true =>
        have hi := i1 hqc
        have HN : Hq (runTo s q (k + 1) = R) := hq (by rw [← HS2.o hqc]; exact hr.o)
        clear i1 i2 hqc HS2 HO2 hr
        go_wp2_with fail
        refine (HC.o _).mono ?_
        rintro e w' ⟨rfl, hw⟩
        obtain rfl := hw
        go_wp2_with fail
        go_round
        case rel => exact ⟨k + 1, by omega, int_eq (by omega), HN⟩
        case measure => simp [intOf]; omega
      | false =>
        have hi := i2 hqc
        have HN : Hq (k = R) := hq (by rw [← HO2.o hqc]; exact hr.o)
        clear i1 i2 hqc HS2 HO2 hr
        go_wp2_with fail
        refine (HC.o _).mono ?_
        rintro e w' ⟨rfl, hw⟩
        obtain rfl := hw
        go_wp2_with fail
        go_ret
        exact ⟨by rw [← HN.o]; rfl, rfl⟩
    · obtain rfl : k = s.size := by omega
      have HN : Hq (s.size = R) := hq (by rw [← HE.o s.size (Nat.le_refl _)]; exact hr.o)
      clear HI HS HO HE hr
      go_wp2_with fail
      go_ret
      exact ⟨by rw [← HN.o]; rfl, rfl⟩
end Go.Proofs.YtmomildkopainaaDoor

namespace Go.Proofs.YtmomildkopainaaDoor
open Go.RowKit

def OnePost (o : Nat × Nat × Int) (w : World) (e : Ending) (w' : World) : Prop := e = .returned (.tuple #[.int .i64 (o.1 : Int), .int .i64 (o.2.1 : Int), .int .i64 o.2.2]) ∧ Below w.heap.size w w'
theorem OnePost.mk {o : Nat × Nat × Int} {k t : Nat} {a b c e : Int} {w w' : World} (h : o = (k, t, e)) (ha : a = (k : Int)) (hb : b = (t : Int)) (hc : c = e) (hw : Below w.heap.size w w') : OnePost o w (.returned (.tuple #[.int .i64 a, .int .i64 b, .int .i64 c])) w' := by
  subst h; subst ha; subst hb; subst hc; exact ⟨rfl, hw⟩

set_option maxHeartbeats 2000000 in
set_option maxRecDepth 1000000 in
theorem next4_any (s : ByteArray) (p : Nat) (w : World) (hT : tabs w) (hs : s.size ≤ 1099511627776) (hp : p < s.size) :
    Calls Tryd.prog 75 #[.string s, .int .i64 (p : Int)] w (OnePost (oneM s p) w) := by
  have y0 : ((s[p]'hp).toNat : Int) = (byt s p : Int) := by rw [byt_eq s p hp]
  have HT := hq hT
  have HSG := hq (fun W => sign4_any (byt s p) W)
  have hone : oneM s p = if signM (byt s p) ≠ 0 then (signM (byt s p), p + 1, 0)
    else if isBlank (byt s p) = true then (1, runTo s isBlank p, 0)
    else if byt s p = 34 then (8, (scanM s p).1, (scanM s p).2.1)
    else if byt s p = 45 ∨ 48 ≤ byt s p ∧ byt s p ≤ 57 then
      (if (parseM (sub s p (runTo s isNum p))).2 ≠ 0 then (0, p, (parseM (sub s p (runTo s isNum p))).2) else (9, runTo s isNum p, 0))
    else if wordM (sub s p (runTo s isLet p)) ≠ 0 then (wordM (sub s p (runTo s isLet p)), runTo s isLet p, 0) else (0, p, 2) := rfl
  have HONE := hq hone
  have HBI := hq (index_any setBlank isBlank setBlank_is (byt s p) (byt_lt s p))
  have HRB := hq (fun W => run4_any setBlank isBlank setBlank_is s p W hs (by omega))
  have HRN := hq (fun W => run4_any setNum isNum setNum_is s p W hs (by omega))
  have HRL := hq (fun W => run4_any setLet isLet setLet_is s p W hs (by omega))
  have HEND := hq (fun W (hW : tabs W) => end_any s (p : Int) W hW hs (by omega))
  have hendM : endM s (p : Int) = ((scanM s p).1, (scanM s p).2.1) := by unfold endM; rw [if_neg (by omega)]; rfl
  rw [hendM] at HEND
  have hnl := runTo_le s isNum p (by omega)
  have hng := runTo_ge s isNum p
  have hll := runTo_le s isLet p (by omega)
  have hlg := runTo_ge s isLet p
  have HPA := hq (fun W => parse_any (s.extract p (runTo s isNum p)) W (by rw [ByteArray.size_extract]; omega))
  have HWO := hq (fun W => word4_any (s.extract p (runTo s isLet p)) W)
  change Hq (∀ W, Calls Tryd.prog 108 #[.string (s.extract p (runTo s isNum p))] W (ParsePost (parseM (sub s p (runTo s isNum p))) W)) at HPA
  change Hq (∀ W, Calls Tryd.prog 109 #[.string (s.extract p (runTo s isLet p))] W fun e w' => e = .returned (.int .i64 (wordM (sub s p (runTo s isLet p)) : Int)) ∧ W = w') at HWO
  clear hone hT hendM
  generalize oneM s p = R at *
  generalize parseM (sub s p (runTo s isNum p)) = PA at *
  generalize wordM (sub s p (runTo s isLet p)) = WO at *
  generalize runTo s isNum p = RN at *
  generalize runTo s isLet p = RL at *
  generalize runTo s isBlank p = RB at *
  generalize scanM s p = SC at *
  generalize hB : isBlank (byt s p) = BL at *
  clear hB
  generalize hG : signM (byt s p) = SG at *
  clear hG
  generalize byt s p = c at *
  go_enter Tryd.func75, Tryd.ntmps75
  go_wp2_with fail
  refine (HSG.o _).mono ?_
  rintro e w' ⟨rfl, hw⟩
  obtain rfl := hw
  clear HSG
  by_cases h1 : SG ≠ 0
  · have HN := hq (HONE.o.trans (if_pos h1))
    have e1 : ((SG : Int) != 0) = true := bne_iff_ne.2 (by omega)
    clear HONE h1 HBI HRB HRN HRL HEND HPA HWO
    go_wp2_with fail
    go_ret3
    exact OnePost.mk HN.o rfl (by omega) rfl (Below.refl _ _)
  · have HO2 := hq (HONE.o.trans (if_neg h1))
    have e1 : ((SG : Int) != 0) = false := by rw [show SG = 0 by omega]; rfl
    obtain ⟨I, hI, i1, i2⟩ := HBI.o
    have HI := hq hI
    clear HONE h1 HBI hI
    cases BL with
    | true =>
      have hi := i1 rfl
      have HN := hq (HO2.o.trans (if_pos rfl))
      clear HO2 i1 i2 HRN HRL HEND HPA HWO
      go_wp2_with fail
      refine (HI.o _).mono ?_
      rintro e w' ⟨rfl, hw⟩
      obtain rfl := hw
      clear HI
      go_wp2_with fail
      refine (HRB.o _).mono ?_
      rintro e w' ⟨rfl, hw⟩
      obtain rfl := hw
      clear HRB
      go_wp2_with fail
      go_ret3
      exact OnePost.mk HN.o rfl rfl rfl (Below.refl _ _)
    | false =>
      have hi := i2 rfl
      have HO3 := hq (HO2.o.trans (if_neg (by decide)))
      clear HO2 i1 i2 HRB
      go_wp2_with fail
      refine (HI.o _).mono ?_
      rintro e w' ⟨rfl, hw⟩
      obtain rfl := hw
      clear HI
      by_cases h3 : c = 34
      · have HN := hq (HO3.o.trans (if_pos h3))
        have e3 : ((c : Int) == 34) = true := by rw [h3]; rfl
        clear HO3 h3 HRN HRL HPA HWO
        go_wp2_with fail
        refine (HEND.o _ HT.o).mono ?_
        rintro e w2 ⟨rfl, hb⟩
        clear HEND
        go_wp2_with fail
        go_ret3
        exact OnePost.mk HN.o rfl rfl rfl hb
      · have HO4 := hq (HO3.o.trans (if_neg h3))
        have e3 : ((c : Int) == 34) = false := beq_eq_false_iff_ne.2 (by omega)
        clear HO3 h3 HEND
        by_cases hnum : c = 45 ∨ 48 ≤ c ∧ c ≤ 57
        · have HO5 := hq (HO4.o.trans (if_pos hnum))
          obtain ⟨⟨pn, pd, pe⟩, pr⟩ := PA
          clear HO4 HRL HWO
          have key : (((c : Int) == 45) = true) ∨ ((((c : Int) == 45) = false) ∧ 48 ≤ c ∧ c ≤ 57) := by
            by_cases h45 : c = 45
            · left; rw [h45]; rfl
            · right; exact ⟨beq_eq_false_iff_ne.2 (by omega), by omega, by omega⟩
          clear hnum
          rcases key with e4 | ⟨e4, g1, g2⟩
          all_goals
            go_wp2_with fail
            refine (HRN.o _).mono ?_
            rintro e w' ⟨rfl, hw⟩
            obtain rfl := hw
            clear HRN
            go_wp2_with fail
            refine (HPA.o _).mono ?_
            rintro e w2 ⟨rfl, hb⟩
            clear HPA
            simp only [Dec.val]
            by_cases hpr : pr = 0
            · have e5 : (pr != 0) = false := by rw [hpr]; rfl
              have HN := hq (HO5.o.trans (if_neg (fun h => h hpr)))
              clear HO5 hpr
              go_wp2_with fail
              go_ret3
              exact OnePost.mk HN.o rfl rfl rfl (hb.alloc (by have := hb.size; omega) _)
            · have e5 : (pr != 0) = true := bne_iff_ne.2 hpr
              have HN := hq (HO5.o.trans (if_pos hpr))
              clear HO5 hpr
              go_wp2_with fail
              go_ret3
              exact OnePost.mk HN.o rfl rfl rfl (hb.alloc (by have := hb.size; omega) _)
        · have HO5 := hq (HO4.o.trans (if_neg hnum))
          have e4 : ((c : Int) == 45) = false := beq_eq_false_iff_ne.2 (by omega)
          clear HO4 HRN HPA
          have key : (48 ≤ c ∧ ¬ c ≤ 57) ∨ ¬ 48 ≤ c := by omega
          clear hnum
          rcases key with ⟨g1, g2⟩ | g1
          all_goals
            go_wp2_with fail
            refine (HRL.o _).mono ?_
            rintro e w' ⟨rfl, hw⟩
            obtain rfl := hw
            clear HRL
            go_wp2_with fail
            refine (HWO.o _).mono ?_
            rintro e w' ⟨rfl, hw⟩
            obtain rfl := hw
            clear HWO
            by_cases hwo : WO ≠ 0
            · have e5 : ((WO : Int) != 0) = true := bne_iff_ne.2 (by omega)
              have HN := hq (HO5.o.trans (if_pos hwo))
              clear HO5 hwo
              go_wp2_with fail
              go_ret3
              exact OnePost.mk HN.o rfl rfl rfl (Below.refl _ _)
            · have e5 : ((WO : Int) != 0) = false := by rw [show WO = 0 by omega]; rfl
              have HN := hq (HO5.o.trans (if_neg hwo))
              clear HO5 hwo
              go_wp2_with fail
              go_ret3
              exact OnePost.mk HN.o rfl rfl rfl (Below.refl _ _)
end Go.Proofs.YtmomildkopainaaDoor

namespace Go.Proofs.YtmomildkopainaaDoor
open Go.RowKit Go.Shelf
attribute [local go_sem] Oper.semAt_some

/-- what a round is handed: a token's kind, its span, an error -/
abbrev Item := Nat × Nat × Nat × Int
abbrev tokV (k a b : Nat) : Value := .agg #[.int .i64 (k : Int), .int .i64 (a : Int), .int .i64 (b : Int)]
abbrev itemV (x : Item) : Array Value := #[tokV x.1 x.2.1 x.2.2.1, .int .i64 x.2.2.2]
def itemsL (s : ByteArray) : Nat → Nat → List Item
  | 0, _ => []
  | f + 1, p =>
    if p < s.size then
      (if (oneM s p).2.2 ≠ 0 then [(0, (oneM s p).2.1, (oneM s p).2.1, (oneM s p).2.2)] else ((oneM s p).1, p, (oneM s p).2.1, 0) :: itemsL s f (oneM s p).2.1)
    else []
def items (s : ByteArray) : List Item := if 65536 < s.size then [(0, 0, 0, 3)] else itemsL s s.size 0
theorem itemsL_end {s : ByteArray} {f p : Nat} (h : ¬ p < s.size) : itemsL s f p = [] := by
  cases f with
  | zero => rfl
  | succ f => rw [itemsL, if_neg h]

/-- what a round keeps: what lay below n₀, and the iterator's box -/
def KpB (n₀ Bn : Nat) (A B : World) : Prop := Below n₀ A B ∧ B.heap[Bn]? = A.heap[Bn]?
set_option maxRecDepth 100000 in
set_option maxHeartbeats 2000000 in
theorem all4_one (l Bn n₀ : Nat) (s : ByteArray) (hsm : s.size ≤ maxLen) (J Jx : List Item → World → Prop)
    (hY : ∀ pre x W, J pre W → pre.length < (items s).length → YieldAt Fence.wide 8 Tryd.prog l (itemV x) W fun e W' =>
      (e = .returned (.bool true) ∧ J (pre ++ [x]) W' ∧ KpB n₀ Bn W W') ∨ (e = .returned (.bool false) ∧ Jx (pre ++ [x]) W'))
    (W : World) (hJ : ∀ pre A B, J pre A → Below A.heap.size A B → J pre B)
    (hBn : W.cell? ⟨Bn, 0, none⟩ = some (.string s)) (hBl : Bn < W.heap.size) (hT : ∀ A, Below n₀ W A → tabs A) (hn₀ : n₀ ≤ W.heap.size) (h0 : J [] W) :
    CallsIn Fence.wide 9 Tryd.prog 74 #[.func (.yield l) #[] #[], .pointer (some ⟨Bn, 0, none⟩)] W fun e W' => (∃ v, e = .returned v) ∧
      ((∃ ys, ys = items s ∧ J ys W') ∨ (∃ pre, pre <+: items s ∧ Jx pre W')) := by
  refine callsIn_of_wp Tryd.func74 rfl trivial ?_ rfl
  simp only [Tryd.ntmps74, List.size_toArray, List.length_cons, List.length_nil, Nat.reduceAdd, Nat.reduceSub, Array.replicate_succ, Array.replicate_zero, List.push_toArray, List.append_toArray, List.nil_append, List.cons_append]
  unfold maxLen at hsm
  by_cases hlong : 65536 < s.size
  · have hi : items s = [(0, 0, 0, 3)] := if_pos hlong
    have hlong' : (65536 : Int) < (s.size : Int) := by omega
    obtain ⟨fn, tmps, assign, body, hy, hR⟩ := hY [] (0, 0, 0, 3) W h0 (by rw [hi]; simp)
    have hy' : (Instr.yield l #[.agg #[.int .i64 0, .int .i64 0, .int .i64 0], .int .i64 3]).run Tryd.prog W = .ok (.round l fn tmps assign body) W := hy
    have HI := hq hi
    clear hy hi hJ hT hlong
    gi_wp2
    refine hR.mono ?_
    rintro e W3 (⟨rfl, hJ3, hk3⟩ | ⟨rfl, hJx3⟩)
    · gi_wp2
      refine bodyPost_ret (results_none rfl _ _ _) rfl ?_
      exact ⟨⟨_, rfl⟩, .inl ⟨_, by rw [HI.o]; rfl, hJ3⟩⟩
    · gi_wp2
      refine bodyPost_ret (results_none rfl _ _ _) rfl ?_
      exact ⟨⟨_, rfl⟩, .inr ⟨_, by rw [HI.o]; exact List.prefix_refl _, hJx3⟩⟩
  · have HI : Hq (items s = itemsL s s.size 0) := hq (if_neg hlong)
    have hs : s.size ≤ 1099511627776 := by omega
    have hlong' : ¬ (65536 : Int) < (s.size : Int) := by omega
    have HJ := hq hJ
    have HT := hq hT
    have HB := hq hBn
    have HY := hq hY
    clear hJ hT hY
    gi_wp2
    clear hBn
    gi_loopw [3] (fun at' wr => ∃ (p f : Nat) (pre : List Item), at' = .int .i64 (p : Int) ∧ p ≤ s.size ∧ s.size ≤ p + f ∧ Hq (items s = pre ++ itemsL s f p) ∧ J pre wr ∧ Below n₀ W wr ∧ Hq (wr.heap[Bn]? = W.heap[Bn]?)) (fun at' _ => s.size - (intOf at').toNat)
    case atStart =>
      exact ⟨0, s.size, [], rfl, Nat.zero_le _, by omega, HI, h0, Below.refl _ _, hq rfl⟩
    case round =>
      obtain ⟨p, f, pre, rfl, hp, hf, hit, hj, hb, hbo⟩ := hrel
      clear HI h0
      have hc : wr.cell? ⟨Bn, 0, none⟩ = some (.string s) := (World.cell?_of_block (a := ⟨Bn, 0, none⟩) hbo.o).trans HB.o
      by_cases hlt : p < s.size
      · obtain ⟨f, rfl⟩ : ∃ g, f = g + 1 := ⟨f - 1, by omega⟩
        obtain ⟨b1, b2, b3, b4⟩ := oneM_bd s p hlt
        have HN := hq (next4_any s p wr (HT.o _ hb) hs hlt)
        have HIT : Hq (items s = pre ++ (if (oneM s p).2.2 ≠ 0 then [(0, (oneM s p).2.1, (oneM s p).2.1, (oneM s p).2.2)] else ((oneM s p).1, p, (oneM s p).2.1, 0) :: itemsL s f (oneM s p).2.1)) := hq (by
          rw [hit.o, itemsL, if_pos hlt])
        clear hit
        generalize oneM s p = R at *
        obtain ⟨k, e, err⟩ := R
        simp only at b1 b2 b3 b4
        have hbs := hb.size
        by_cases he : err ≠ 0
        · have hi : items s = pre ++ [(0, e, e, err)] := HIT.o.trans (by rw [if_pos he])
          have e1 : (err != 0) = true := bne_iff_ne.2 he
          have HI2 := hq hi
          have HLN : Hq (pre.length < (items s).length) := hq (by rw [hi]; simp)
          clear hi HIT he b4 HT
          gi_wp2_with (refine ⟨trivial, ?_⟩; gi_at_call 75; refine (callsIn_wide.2 HN.o).mono ?_; rintro e' w2 ⟨rfl, hb2⟩; have hj2 := HJ.o _ _ _ hj hb2; obtain ⟨fn, tmps, assign, body, hy, hR⟩ := HY.o pre (0, e, e, err) w2 hj2 HLN.o; have hy' : (Instr.yield l #[.agg #[.int .i64 0, .int .i64 (e : Int), .int .i64 (e : Int)], .int .i64 err]).run Tryd.prog w2 = .ok (.round l fn tmps assign body) w2 := hy; clear hy)
          refine hR.mono ?_
          rintro e' W3 (⟨rfl, hJ3, hk3⟩ | ⟨rfl, hJx3⟩)
          · gi_wp2
            refine bodyPost_ret (results_none rfl _ _ _) rfl ?_
            exact ⟨⟨_, rfl⟩, .inl ⟨_, by rw [HI2.o], hJ3⟩⟩
          · gi_wp2
            refine bodyPost_ret (results_none rfl _ _ _) rfl ?_
            exact ⟨⟨_, rfl⟩, .inr ⟨_, by rw [HI2.o]; exact List.prefix_refl _, hJx3⟩⟩
        · have hi : items s = pre ++ (k, p, e, 0) :: itemsL s f e := HIT.o.trans (by rw [if_neg he])
          have e1 : (err != 0) = false := by rw [show err = 0 by omega]; rfl
          have b5 := (b4 (by omega)).1
          have HI2 := hq hi
          have HLN : Hq (pre.length < (items s).length) := hq (by rw [hi]; simp)
          clear hi HIT he b4
          gi_wp2_with (refine ⟨trivial, ?_⟩; gi_at_call 75; refine (callsIn_wide.2 HN.o).mono ?_; rintro e' w2 ⟨rfl, hb2⟩; have hj2 := HJ.o _ _ _ hj hb2; obtain ⟨fn, tmps, assign, body, hy, hR⟩ := HY.o pre (k, p, e, 0) w2 hj2 HLN.o; have hy' : (Instr.yield l #[.agg #[.int .i64 (k : Int), .int .i64 (p : Int), .int .i64 (e : Int)], .int .i64 0]).run Tryd.prog w2 = .ok (.round l fn tmps assign body) w2 := hy; clear hy)
          have hbw : Below n₀ W w2 := hb.trans (hb2.mono (by omega))
          have HBW : Hq (w2.heap[Bn]? = W.heap[Bn]?) := hq ((hb2.block Bn (by omega)).trans hbo.o)
          refine hR.mono ?_
          rintro e' W3 (⟨rfl, hJ3, hk3⟩ | ⟨rfl, hJx3⟩)
          · gi_wp2
            go_roundw
            case rel => exact ⟨e, f, pre ++ [(k, p, e, 0)], rfl, b2, by omega, hq (by rw [HI2.o]; simp), hJ3, hbw.trans hk3.1, hq (hk3.2.trans HBW.o)⟩
            case measure => simp [intOf]; omega
          · gi_wp2
            refine bodyPost_ret (results_none rfl _ _ _) rfl ?_
            exact ⟨⟨_, rfl⟩, .inr ⟨_, ⟨itemsL s f e, by rw [HI2.o]; simp⟩, hJx3⟩⟩
      · have HI2 : Hq (items s = pre) := hq (by rw [hit.o, itemsL_end hlt]; simp)
        clear hit
        gi_wp2
        go_end0
        exact ⟨⟨_, rfl⟩, .inl ⟨_, HI2.o.symm, hj⟩⟩

set_option maxHeartbeats 400000 in
theorem all4_any (s : ByteArray) (w : World) : Calls Tryd.prog 50 #[.string s] w fun e w' => e = .returned (.func (.func 74) #[] #[.pointer (some ⟨w.heap.size, 0, none⟩)]) ∧ w' = w.alloc (.cells #[.string s] 9) := by
  have hmf : ∀ fn first cap w, (Instr.makeFunc fn first cap).run Tryd.prog w = .ok (.func fn first cap) w := fun _ _ _ _ => rfl
  go_enter Tryd.func50, Tryd.ntmps50
  go_wp2_with fail
  go_ret
  exact ⟨rfl, rfl⟩
theorem abides_below {J : List Item → World → Prop} {B : Nat} (h : AbidesFrom B J) : ∀ pre A C, J pre A → Below A.heap.size A C → J pre C :=
  fun pre A C hj hb => h pre A C none hj ⟨hb.os, hb.tape, hb.output, hb.size, fun k hk _ => hb.block k hk⟩ (fun r e => by cases e)
theorem all4_stops (Bn n₀ : Nat) (s : ByteArray) (hs : s.size ≤ maxLen) (w : World) (hBn : w.cell? ⟨Bn, 0, none⟩ = some (.string s)) (hBl : Bn < w.heap.size) (hT : ∀ A, Below n₀ w A → tabs A) (hn₀ : n₀ ≤ w.heap.size) :
    SeqStopsK Fence.wide 9 Tryd.prog 74 #[.pointer (some ⟨Bn, 0, none⟩)] itemV (KpB n₀ Bn) (fun ys => ys = items s) (fun pre => pre <+: items s) (items s).length w :=
  fun l J Jx W hW hJ _ hY h0 => all4_one l Bn n₀ s hs J Jx hY W (abides_below hJ) ((hW.cell (p := ⟨Bn, 0, none⟩) hBl).trans hBn) (by have := hW.size; omega) (fun A hA => hT A ((hW.mono hn₀).trans hA)) (by have := hW.size; omega) h0
end Go.Proofs.YtmomildkopainaaDoor
