/-
  WALKS: the document's Compare of layer 2, and the law NumberCompares.
-/
import Derived.Test.YtpgdmkhcdfhhaaaDoorNumOrd
import Derived.Test.YtpgdmkhcdfhhaaaDoorNumSmall
namespace Go.Proofs.YtpgdmkhcdfhhaaaDoor
open Go.RowKit

theorem right_digs {n : Bool} {D : Bs} {E : Int} (h : Dec.right ⟨n, D, E⟩ = true) : D.all isDig = true := by
  by_cases hz : Dec.mk n D E = .zero
  · have := congrArg Dec.digits hz
    simp only [Dec.zero] at this
    rw [this]; rfl
  · exact (right_dig h hz).2.1

set_option maxHeartbeats 1000000 in
set_option maxRecDepth 1000000 in
theorem rcompare_any (na : Bool) (DA : Bs) (EA : Int) (nb : Bool) (DB : Bs) (EB : Int) (w : World) (hA : DA.length ≤ 1099511627776) (hB : DB.length ≤ 1099511627776) (hEA : -9223372036854775808 ≤ EA ∧ EA ≤ 9223372036854775807) (hEB : -9223372036854775808 ≤ EB ∧ EB ≤ 9223372036854775807) :
    Calls Tryd.prog 27 #[.agg #[.bool na, .string (st DA), .int .i64 EA], .agg #[.bool nb, .string (st DB), .int .i64 EB]] w fun e w' => e = .returned (.int .i64 (compareM ⟨na, DA, EA⟩ ⟨nb, DB, EB⟩)) ∧ Below w.heap.size w w' := by
  rw [← rcompareM_eq]
  have hba := @right_bd na DA EA
  have hbb := @right_bd nb DB EB
  have hda := @right_digs na DA EA
  have hdb := @right_digs nb DB EB
  generalize hR : rcompareM ⟨na, DA, EA⟩ ⟨nb, DB, EB⟩ = R
  have HR := hq hR
  clear hR
  unfold rcompareM at HR
  have hra := rright_any na DA EA
  have hrb := rright_any nb DB EB
  have hsab := rsize_any na DA EA nb DB EB
  have hsba := rsize_any nb DB EB na DA EA
  generalize Dec.right ⟨na, DA, EA⟩ = ra at *
  generalize Dec.right ⟨nb, DB, EB⟩ = rb at *
  generalize rsizeM ⟨na, DA, EA⟩ ⟨nb, DB, EB⟩ = sab at *
  generalize rsizeM ⟨nb, DB, EB⟩ ⟨na, DA, EA⟩ = sba at *
  have HBA := hq hba
  have HBB := hq hbb
  have HDA := hq hda
  have HDB := hq hdb
  have HRA := hq hra
  have HRB := hq hrb
  have HSAB := hq hsab
  have HSBA := hq hsba
  clear hba hbb hda hdb hra hrb hsab hsba
  go_enter Tryd.func27, Tryd.ntmps27
  have hT : Twin w na DA EA nb DB EB ((w.alloc (.cells #[.bool na, .string (st DA), .int .i64 EA] 23)).alloc (.cells #[.bool nb, .string (st DB), .int .i64 EB] 23)) := twin_made w na DA EA nb DB EB
  go_wp2_with fail
  refine (HRA.o _ hA hEA).mono ?_
  rintro e w1 ⟨rfl, hb1⟩
  replace hT := hT.grow hb1
  clear hb1
  obtain ⟨c0, c1, c2, d0, d1, d2⟩ := hT.cells
  go_wp2_with fail
  refine (HRB.o _ hB hEB).mono ?_
  rintro e w2 ⟨rfl, hb1⟩
  replace hT := hT.grow hb1
  clear hb1 c0 c1 c2 d0 d1 d2 HRA HRB
  obtain ⟨c0, c1, c2, d0, d1, d2⟩ := hT.cells
  cases ra with
  | false =>
    cases rb with
    | false =>
      have HN : Hq (R = 0) := hq (by rw [← HR.o]; rfl)
      clear HR
      go_wp2_with fail
      go_ret
      exact ⟨by rw [HN.o]; rfl, hT.1⟩
    | true =>
      have HN : Hq (R = -1) := hq (by rw [← HR.o]; rfl)
      clear HR
      go_wp2_with fail
      go_ret
      exact ⟨by rw [HN.o]; rfl, hT.1⟩
  | true =>
    cases rb with
    | false =>
      have HN : Hq (R = 1) := hq (by rw [← HR.o]; rfl)
      clear HR
      go_wp2_with fail
      go_ret
      exact ⟨by rw [HN.o]; rfl, hT.1⟩
    | true =>
      obtain ⟨hA2, hEA2⟩ := HBA.o rfl
      obtain ⟨hB2, hEB2⟩ := HBB.o rfl
      have hdA := HDA.o rfl
      have hdB := HDB.o rfl
      have HAB := hq fun W => HSAB.o W hA2 hB2 hEA2 hEB2 hdA hdB
      have HBA2 := hq fun W => HSBA.o W hB2 hA2 hEB2 hEA2 hdB hdA
      clear HBA HBB HDA HDB HSAB HSBA hdA hdB
      cases na with
      | true =>
        cases nb with
        | true =>
          have HN : Hq (R = sba) := hq (by rw [← HR.o]; rfl)
          clear HR
          go_wp2_with fail
          refine (HBA2.o _).mono ?_
          rintro e w3 ⟨rfl, hb1⟩
          replace hT := hT.grow hb1
          clear hb1 c0 c1 c2 d0 d1 d2
          go_wp2_with fail
          go_ret
          exact ⟨by rw [HN.o]; rfl, hT.1⟩
        | false =>
          have HN : Hq (R = -1) := hq (by rw [← HR.o]; rfl)
          clear HR
          go_wp2_with fail
          go_ret
          exact ⟨by rw [HN.o]; rfl, hT.1⟩
      | false =>
        cases nb with
        | true =>
          have HN : Hq (R = 1) := hq (by rw [← HR.o]; rfl)
          clear HR
          go_wp2_with fail
          go_ret
          exact ⟨by rw [HN.o]; rfl, hT.1⟩
        | false =>
          have HN : Hq (R = sab) := hq (by rw [← HR.o]; rfl)
          clear HR
          go_wp2_with fail
          refine (HAB.o _).mono ?_
          rintro e w3 ⟨rfl, hb1⟩
          replace hT := hT.grow hb1
          clear hb1 c0 c1 c2 d0 d1 d2
          go_wp2_with fail
          go_ret
          exact ⟨by rw [HN.o]; rfl, hT.1⟩

set_option maxHeartbeats 400000 in
set_option maxRecDepth 1000000 in
theorem few_any (neg : Bool) (D : Bs) (E : Int) (w : World) (hD : D.length ≤ 9223372036854775807) :
    Calls Tryd.prog 15 #[.agg #[.bool neg, .string (st D), .int .i64 E]] w fun e w' => e = .returned (.bool (decide (D.length ≤ 2048))) ∧ Below w.heap.size w w' := by
  have hb := below_alloc w (.cells #[.bool neg, .string (st D), .int .i64 E] 23)
  have hd : Hq (decide ((D.length : Int) ≤ 2048) = decide (D.length ≤ 2048)) := hq (decide_eq_decide.2 (by omega))
  generalize decide (D.length ≤ 2048) = B at *
  go_enter Tryd.func15, Tryd.ntmps15
  go_wp2_with fail
  go_ret
  exact ⟨by rw [← hd.o]; rfl, hb⟩

set_option maxHeartbeats 1000000 in
set_option maxRecDepth 1000000 in
theorem numberCompares (na : Bool) (DA : Bs) (EA : Int) (nb : Bool) (DB : Bs) (EB : Int) (w : World) (hA : DA.length ≤ 9223372036854775807) (hB : DB.length ≤ 9223372036854775807) (hEA : -9223372036854775808 ≤ EA ∧ EA ≤ 9223372036854775807) (hEB : -9223372036854775808 ≤ EB ∧ EB ≤ 9223372036854775807) :
    Calls Tryd.prog 5 #[.agg #[.bool na, .string (st DA), .int .i64 EA], .agg #[.bool nb, .string (st DB), .int .i64 EB]] w fun e w' => e = .returned (.bool true) ∧ Below w.heap.size w w' := by
  go_enter Tryd.func5, Tryd.ntmps5
  have hT : Twin w na DA EA nb DB EB ((w.alloc (.cells #[.bool na, .string (st DA), .int .i64 EA] 23)).alloc (.cells #[.bool nb, .string (st DB), .int .i64 EB] 23)) := twin_made w na DA EA nb DB EB
  go_wp2_with fail
  refine (small_any _).mono ?_
  rintro e w1 ⟨rfl, hb1⟩
  replace hT := hT.grow hb1
  clear hb1
  obtain ⟨c0, c1, c2, d0, d1, d2⟩ := hT.cells
  go_wp2_with fail
  refine (few_any na DA EA _ hA).mono ?_
  rintro e w2 ⟨rfl, hb1⟩
  replace hT := hT.grow hb1
  clear hb1 c0 c1 c2 d0 d1 d2
  obtain ⟨c0, c1, c2, d0, d1, d2⟩ := hT.cells
  go_wp2_with fail
  refine (few_any nb DB EB _ hB).mono ?_
  rintro e w3 ⟨rfl, hb1⟩
  replace hT := hT.grow hb1
  clear hb1 c0 c1 c2 d0 d1 d2
  have hca : ∀ W, DA.length ≤ 2048 → DB.length ≤ 2048 → _ := fun W h1 h2 => compare_any na DA EA nb DB EB W (by omega) (by omega) hEA hEB
  have hcb : ∀ W, DA.length ≤ 2048 → DB.length ≤ 2048 → _ := fun W h1 h2 => rcompare_any na DA EA nb DB EB W (by omega) (by omega) hEA hEB
  generalize compareM ⟨na, DA, EA⟩ ⟨nb, DB, EB⟩ = C at *
  by_cases h1 : DA.length ≤ 2048
  · by_cases h2 : DB.length ≤ 2048
    · have HCA := hq fun W => hca W h1 h2
      have HCB := hq fun W => hcb W h1 h2
      rw [decide_eq_true h1, decide_eq_true h2]
      clear hca hcb
      go_upto_region 4 with fail
      go_region_held3 (fun W => Twin w na DA EA nb DB EB W ∧ W.cell? ⟨w.heap.size, 0, none⟩ = some (.bool na) ∧ W.cell? ⟨w.heap.size, 1, none⟩ = some (.string (st DA)) ∧ W.cell? ⟨w.heap.size, 2, none⟩ = some (.int .i64 EA) ∧ W.cell? ⟨w.heap.size + 1, 0, none⟩ = some (.bool nb) ∧ W.cell? ⟨w.heap.size + 1, 1, none⟩ = some (.string (st DB)) ∧ W.cell? ⟨w.heap.size + 1, 2, none⟩ = some (.int .i64 EB)) (first | exact ⟨hT.drew, hT.drew.cells⟩ | exact ⟨hT2, hT2.cells⟩) (first | (go_at_call 26; refine (HCA.o _).mono ?_; rintro e v ⟨rfl, hb2⟩; have hT2 : Twin w na DA EA nb DB EB v := Twin.grow (And.left (by assumption)) hb2) | (go_at_call 27; refine (HCB.o _).mono ?_; rintro e v ⟨rfl, hb2⟩; have hT2 : Twin w na DA EA nb DB EB v := Twin.grow (And.left (by assumption)) hb2))
      go_wp2_with fail
      go_ret
      exact ⟨rfl, hT2.1⟩
    · rw [decide_eq_true h1, decide_eq_false h2]
      clear hca hcb
      go_upto_region 4 with fail
      go_quiet (fail)
      go_wp2_with fail
      go_ret
      exact ⟨rfl, below_drewN hT.1 _⟩
  · rw [decide_eq_false h1]
    clear hca hcb
    generalize decide (DB.length ≤ 2048) = B at *
    go_upto_region 4 with fail
    go_quiet (fail)
    go_wp2_with fail
    go_ret
    exact ⟨rfl, below_drewN hT.1 _⟩
end Go.Proofs.YtpgdmkhcdfhhaaaDoor
