/-
  WALKS: lex.next.
-/
import Derived.Test.YtleabaldjlbnlaaDoorLexW
import Derived.Test.YtleabaldjlbnlaaDoorUnqEnd
namespace Go.Proofs.YtleabaldjlbnlaaDoor
open Go.RowKit

def OnePost (o : Nat × Nat × Int) (w : World) (e : Ending) (w' : World) : Prop := e = .returned (.tuple #[.int .i64 (o.1 : Int), .int .i64 (o.2.1 : Int), .int .i64 o.2.2]) ∧ Below w.heap.size w w'
theorem OnePost.mk {o : Nat × Nat × Int} {k t : Nat} {a b c e : Int} {w w' : World} (h : o = (k, t, e)) (ha : a = (k : Int)) (hb : b = (t : Int)) (hc : c = e) (hw : Below w.heap.size w w') : OnePost o w (.returned (.tuple #[.int .i64 a, .int .i64 b, .int .i64 c])) w' := by
  subst h; subst ha; subst hb; subst hc; exact ⟨rfl, hw⟩

set_option maxHeartbeats 2000000 in
set_option maxRecDepth 1000000 in
theorem next4_any (s : ByteArray) (p : Nat) (w : World) (hT : tabs w) (hs : s.size ≤ 1099511627776) (hp : p < s.size) :
    Calls Tryd.prog 40 #[.string s, .int .i64 (p : Int)] w (OnePost (oneM s p) w) := by
  have y0 : ((s[p]'hp).toNat : Int) = (byt s p : Int) := by rw [byt_eq s p hp]
  have HT := hq hT
  have HSG := hq (fun W => sign4_any (byt s p) W)
  have hone : oneM s p = if signM (byt s p) ≠ 0 then (signM (byt s p), p + 1, 0)
    else if isBlank (byt s p) = true then (1, runTo s isBlank p, 0)
    else if byt s p = 34 then (8, (scanM s p).1, (scanM s p).2.1)
    else if byt s p = 45 ∨ 48 ≤ byt s p ∧ byt s p ≤ 57 then
      (if (parseM (sub s p (runTo s isNum p))).2 ≠ 0 then (0, p, (parseM (sub s p (runTo s isNum p))).2) else (9, runTo s isNum p, 0))
    else if wordM (sub s p (runTo s isLet p)) ≠ 0 then (wordM (sub s p (runTo s isLet p)), runTo s isLet p, 0) else (0, p, 2) := rfl
  have HONE := hq hone
  have HBI := hq (index_any setBlank isBlank setBlank_is (byt s p) (byt_lt s p))
  have HRB := hq (fun W => run4_any setBlank isBlank setBlank_is s p W hs (by omega))
  have HRN := hq (fun W => run4_any setNum isNum setNum_is s p W hs (by omega))
  have HRL := hq (fun W => run4_any setLet isLet setLet_is s p W hs (by omega))
  have HEND := hq (fun W (hW : tabs W) => end_any s (p : Int) W hW hs (by omega))
  have hendM : endM s (p : Int) = ((scanM s p).1, (scanM s p).2.1) := by unfold endM; rw [if_neg (by omega)]; rfl
  rw [hendM] at HEND
  have hnl := runTo_le s isNum p (by omega)
  have hng := runTo_ge s isNum p
  have hll := runTo_le s isLet p (by omega)
  have hlg := runTo_ge s isLet p
  have HPA := hq (fun W => parse_any (s.extract p (runTo s isNum p)) W (by rw [ByteArray.size_extract]; omega))
  have HWO := hq (fun W => word4_any (s.extract p (runTo s isLet p)) W)
  change Hq (∀ W, Calls Tryd.prog 52 #[.string (s.extract p (runTo s isNum p))] W (ParsePost (parseM (sub s p (runTo s isNum p))) W)) at HPA
  change Hq (∀ W, Calls Tryd.prog 53 #[.string (s.extract p (runTo s isLet p))] W fun e w' => e = .returned (.int .i64 (wordM (sub s p (runTo s isLet p)) : Int)) ∧ W = w') at HWO
  clear hone hT hendM
  generalize oneM s p = R at *
  generalize parseM (sub s p (runTo s isNum p)) = PA at *
  generalize wordM (sub s p (runTo s isLet p)) = WO at *
  generalize runTo s isNum p = RN at *
  generalize runTo s isLet p = RL at *
  generalize runTo s isBlank p = RB at *
  generalize scanM s p = SC at *
  generalize hB : isBlank (byt s p) = BL at *
  clear hB
  generalize hG : signM (byt s p) = SG at *
  clear hG
  generalize byt s p = c at *
  go_enter Tryd.func40, Tryd.ntmps40
  go_wp2_with fail
  refine (HSG.o _).mono ?_
  rintro e w' ⟨rfl, hw⟩
  obtain rfl := hw
  clear HSG
  by_cases h1 : SG ≠ 0
  · have HN := hq (HONE.o.trans (if_pos h1))
    have e1 : ((SG : Int) != 0) = true := bne_iff_ne.2 (by omega)
    clear HONE h1 HBI HRB HRN HRL HEND HPA HWO
    go_wp2_with fail
    go_ret3
    exact OnePost.mk HN.o rfl (by omega) rfl (Below.refl _ _)
  · have HO2 := hq (HONE.o.trans (if_neg h1))
    have e1 : ((SG : Int) != 0) = false := by rw [show SG = 0 by omega]; rfl
    obtain ⟨I, hI, i1, i2⟩ := HBI.o
    have HI := hq hI
    clear HONE h1 HBI hI
    cases BL with
    | true =>
      have hi := i1 rfl
      have HN := hq (HO2.o.trans (if_pos rfl))
      clear HO2 i1 i2 HRN HRL HEND HPA HWO
      go_wp2_with fail
      refine (HI.o _).mono ?_
      rintro e w' ⟨rfl, hw⟩
      obtain rfl := hw
      clear HI
      go_wp2_with fail
      refine (HRB.o _).mono ?_
      rintro e w' ⟨rfl, hw⟩
      obtain rfl := hw
      clear HRB
      go_wp2_with fail
      go_ret3
      exact OnePost.mk HN.o rfl rfl rfl (Below.refl _ _)
    | false =>
      have hi := i2 rfl
      have HO3 := hq (HO2.o.trans (if_neg (by decide)))
      clear HO2 i1 i2 HRB
      go_wp2_with fail
      refine (HI.o _).mono ?_
      rintro e w' ⟨rfl, hw⟩
      obtain rfl := hw
      clear HI
      by_cases h3 : c = 34
      · have HN := hq (HO3.o.trans (if_pos h3))
        have e3 : ((c : Int) == 34) = true := by rw [h3]; rfl
        clear HO3 h3 HRN HRL HPA HWO
        go_wp2_with fail
        refine (HEND.o _ HT.o).mono ?_
        rintro e w2 ⟨rfl, hb⟩
        clear HEND
        go_wp2_with fail
        go_ret3
        exact OnePost.mk HN.o rfl rfl rfl hb
      · have HO4 := hq (HO3.o.trans (if_neg h3))
        have e3 : ((c : Int) == 34) = false := beq_eq_false_iff_ne.2 (by omega)
        clear HO3 h3 HEND
        by_cases hnum : c = 45 ∨ 48 ≤ c ∧ c ≤ 57
        · have HO5 := hq (HO4.o.trans (if_pos hnum))
          obtain ⟨⟨pn, pd, pe⟩, pr⟩ := PA
          clear HO4 HRL HWO
          have key : (((c : Int) == 45) = true) ∨ ((((c : Int) == 45) = false) ∧ 48 ≤ c ∧ c ≤ 57) := by
            by_cases h45 : c = 45
            · left; rw [h45]; rfl
            · right; exact ⟨beq_eq_false_iff_ne.2 (by omega), by omega, by omega⟩
          clear hnum
          rcases key with e4 | ⟨e4, g1, g2⟩
          all_goals
            go_wp2_with fail
            refine (HRN.o _).mono ?_
            rintro e w' ⟨rfl, hw⟩
            obtain rfl := hw
            clear HRN
            go_wp2_with fail
            refine (HPA.o _).mono ?_
            rintro e w2 ⟨rfl, hb⟩
            clear HPA
            simp only [Dec.val]
            by_cases hpr : pr = 0
            · have e5 : (pr != 0) = false := by rw [hpr]; rfl
              have HN := hq (HO5.o.trans (if_neg (fun h => h hpr)))
              clear HO5 hpr
              go_wp2_with fail
              go_ret3
              exact OnePost.mk HN.o rfl rfl rfl (hb.alloc (by have := hb.size; omega) _)
            · have e5 : (pr != 0) = true := bne_iff_ne.2 hpr
              have HN := hq (HO5.o.trans (if_pos hpr))
              clear HO5 hpr
              go_wp2_with fail
              go_ret3
              exact OnePost.mk HN.o rfl rfl rfl (hb.alloc (by have := hb.size; omega) _)
        · have HO5 := hq (HO4.o.trans (if_neg hnum))
          have e4 : ((c : Int) == 45) = false := beq_eq_false_iff_ne.2 (by omega)
          clear HO4 HRN HPA
          have key : (48 ≤ c ∧ ¬ c ≤ 57) ∨ ¬ 48 ≤ c := by omega
          clear hnum
          rcases key with ⟨g1, g2⟩ | g1
          all_goals
            go_wp2_with fail
            refine (HRL.o _).mono ?_
            rintro e w' ⟨rfl, hw⟩
            obtain rfl := hw
            clear HRL
            go_wp2_with fail
            refine (HWO.o _).mono ?_
            rintro e w' ⟨rfl, hw⟩
            obtain rfl := hw
            clear HWO
            by_cases hwo : WO ≠ 0
            · have e5 : ((WO : Int) != 0) = true := bne_iff_ne.2 (by omega)
              have HN := hq (HO5.o.trans (if_pos hwo))
              clear HO5 hwo
              go_wp2_with fail
              go_ret3
              exact OnePost.mk HN.o rfl rfl rfl (Below.refl _ _)
            · have e5 : ((WO : Int) != 0) = false := by rw [show WO = 0 by omega]; rfl
              have HN := hq (HO5.o.trans (if_neg hwo))
              clear HO5 hwo
              go_wp2_with fail
              go_ret3
              exact OnePost.mk HN.o rfl rfl rfl (Below.refl _ _)
end Go.Proofs.YtleabaldjlbnlaaDoor
