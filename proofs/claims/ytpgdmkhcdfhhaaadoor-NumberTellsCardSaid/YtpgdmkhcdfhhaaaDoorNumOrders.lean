/-
  WALK: the law NumberOrders.
-/
import Derived.Test.YtpgdmkhcdfhhaaaDoorNumVal3
import Derived.Test.YtpgdmkhcdfhhaaaDoorNumRefC
import Derived.Test.YtpgdmkhcdfhhaaaDoorNumEq
namespace Go.Proofs.YtpgdmkhcdfhhaaaDoor
open Go.RowKit

/-- three numbers that lie in the first three blocks, in a world grown from w -/
def Trip (w : World) (na : Bool) (DA : Bs) (EA : Int) (nb : Bool) (DB : Bs) (EB : Int) (nc : Bool) (DC : Bs) (EC : Int) (W : World) : Prop :=
  (Below w.heap.size w W ∧ Whole W w.heap.size 23 #[.bool na, .string (st DA), .int .i64 EA] ∧ Whole W (w.heap.size + 1) 23 #[.bool nb, .string (st DB), .int .i64 EB] ∧ Whole W (w.heap.size + 1 + 1) 23 #[.bool nc, .string (st DC), .int .i64 EC])
section
variable {w : World} {na : Bool} {DA : Bs} {EA : Int} {nb : Bool} {DB : Bs} {EB : Int} {nc : Bool} {DC : Bs} {EC : Int} {W W' : World}
theorem Trip.grow (h : Trip w na DA EA nb DB EB nc DC EC W) (hb : Below W.heap.size W W') : Trip w na DA EA nb DB EB nc DC EC W' :=
  ⟨below_trans h.1 hb, h.2.1.grow hb, h.2.2.1.grow hb, h.2.2.2.grow hb⟩
theorem Trip.drew (h : Trip w na DA EA nb DB EB nc DC EC W) : Trip w na DA EA nb DB EB nc DC EC W.drew := ⟨h.1.drew, h.2.1, h.2.2.1, h.2.2.2⟩
def TripCells (w : World) (na : Bool) (DA : Bs) (EA : Int) (nb : Bool) (DB : Bs) (EB : Int) (nc : Bool) (DC : Bs) (EC : Int) (W : World) : Prop :=
  W.cell? ⟨w.heap.size, 0, none⟩ = some (.bool na) ∧ W.cell? ⟨w.heap.size, 1, none⟩ = some (.string (st DA)) ∧ W.cell? ⟨w.heap.size, 2, none⟩ = some (.int .i64 EA) ∧
  W.cell? ⟨w.heap.size + 1, 0, none⟩ = some (.bool nb) ∧ W.cell? ⟨w.heap.size + 1, 1, none⟩ = some (.string (st DB)) ∧ W.cell? ⟨w.heap.size + 1, 2, none⟩ = some (.int .i64 EB) ∧
  W.cell? ⟨w.heap.size + 1 + 1, 0, none⟩ = some (.bool nc) ∧ W.cell? ⟨w.heap.size + 1 + 1, 1, none⟩ = some (.string (st DC)) ∧ W.cell? ⟨w.heap.size + 1 + 1, 2, none⟩ = some (.int .i64 EC)
theorem Trip.cells (h : Trip w na DA EA nb DB EB nc DC EC W) : TripCells w na DA EA nb DB EB nc DC EC W := by
  obtain ⟨a0, a1, a2⟩ := three_cells h.2.1
  obtain ⟨b0, b1, b2⟩ := three_cells h.2.2.1
  obtain ⟨c0, c1, c2⟩ := three_cells h.2.2.2
  exact ⟨a0, a1, a2, b0, b1, b2, c0, c1, c2⟩
end
theorem trip_made (w : World) (na : Bool) (DA : Bs) (EA : Int) (nb : Bool) (DB : Bs) (EB : Int) (nc : Bool) (DC : Bs) (EC : Int) :
    Trip w na DA EA nb DB EB nc DC EC (((w.alloc (.cells #[.bool na, .string (st DA), .int .i64 EA] 23)).alloc (.cells #[.bool nb, .string (st DB), .int .i64 EB] 23)).alloc (.cells #[.bool nc, .string (st DC), .int .i64 EC] 23)) := by
  have h0 := Whole.made w 23 #[.bool na, .string (st DA), .int .i64 EA]
  have h1 := Whole.made (w.alloc (.cells #[.bool na, .string (st DA), .int .i64 EA] 23)) 23 #[.bool nb, .string (st DB), .int .i64 EB]
  have h2 := Whole.made ((w.alloc (.cells #[.bool na, .string (st DA), .int .i64 EA] 23)).alloc (.cells #[.bool nb, .string (st DB), .int .i64 EB] 23)) 23 #[.bool nc, .string (st DC), .int .i64 EC]
  simp only [World.size_alloc] at h1 h2
  exact ⟨((below_alloc w _).alloc (by rw [World.size_alloc]; omega) _).alloc (by rw [World.size_alloc, World.size_alloc]; omega) _, (h0.alloc _).alloc _, h1.alloc _, h2⟩

theorem decDigits_short (n : Int) (h0 : -9223372036854775808 ≤ n) (h1 : n ≤ 9223372036854775807) : (Lib.decDigits n.natAbs).length ≤ 1000 ∧ (Lib.itoa n).length ≤ 1000 := by
  have h := Lib.itoa_length_le n (by omega) (by omega)
  have h2 : (Lib.decDigits n.natAbs).length ≤ (Lib.itoa n).length := by
    unfold Lib.itoa
    split
    · simp
    · rename_i hn
      rw [show n.natAbs = n.toNat by omega]
      exact Nat.le_refl _
  omega
/-- Of, of any int -/
theorem of_int (n : Int) (h0 : -9223372036854775808 ≤ n) (h1 : n ≤ 9223372036854775807) (w : World) (hI : Itoas n w) :
    Calls Tryd.prog 22 #[.int .i64 n] w (OfPost (ofM n) w) := by
  have h := decDigits_short n h0 h1
  exact of_any n _ w hI h.2 (splitM_itoa n) (by simp only [List.length_nil]; omega)
theorem ofM_bd (n : Int) (h0 : -9223372036854775808 ≤ n) (h1 : n ≤ 9223372036854775807) : (ofM n).digits.length ≤ 1000 ∧ -9223372036854775808 ≤ (ofM n).exp ∧ (ofM n).exp ≤ 9223372036854775807 :=
  numM_exp _ _ _ _ _ rfl (by simp) (by have := (decDigits_short n h0 h1).1; simp only [List.length_nil]; omega)
theorem sg_lt {x : Int} : sg x < 0 ↔ x < 0 := by
  unfold sg
  split
  · omega
  · split <;> omega
theorem sg_zero {x : Int} : sg x = 0 ↔ x = 0 := by
  unfold sg
  split
  · omega
  · split <;> omega
def DecPostOf (d : Dec) (w : World) (e : Ending) (w' : World) : Prop := e = .returned (.agg #[.bool d.neg, .string (st d.digits), .int .i64 d.exp]) ∧ Below w.heap.size w w'

set_option maxHeartbeats 4000000 in
set_option maxRecDepth 1000000 in
theorem numberOrders (na : Bool) (DA : Bs) (EA : Int) (nb : Bool) (DB : Bs) (EB : Int) (nc : Bool) (DC : Bs) (EC : Int) (i k : Int) (w : World)
    (hA : DA.length ≤ 9223372036854775807) (hB : DB.length ≤ 9223372036854775807) (hC : DC.length ≤ 9223372036854775807)
    (hEA : -9223372036854775808 ≤ EA ∧ EA ≤ 9223372036854775807) (hEB : -9223372036854775808 ≤ EB ∧ EB ≤ 9223372036854775807) (hEC : -9223372036854775808 ≤ EC ∧ EC ≤ 9223372036854775807)
    (hi : -9223372036854775808 ≤ i ∧ i ≤ 9223372036854775807) (hk : -9223372036854775808 ≤ k ∧ k ≤ 9223372036854775807) (hIi : Itoas i w) (hIk : Itoas k w) :
    Calls Tryd.prog 7 #[.agg #[.bool na, .string (st DA), .int .i64 EA], .agg #[.bool nb, .string (st DB), .int .i64 EB], .agg #[.bool nc, .string (st DC), .int .i64 EC], .int .i64 i, .int .i64 k] w fun e w' => e = .returned (.bool true) ∧ Below w.heap.size w w' := by
  have HIi := hq hIi
  have HIk := hq hIk
  clear hIi hIk
  go_enter Tryd.func7, Tryd.ntmps7
  have hT := trip_made w na DA EA nb DB EB nc DC EC
  go_wp2_with fail
  refine (small_any _).mono ?_
  rintro e w1 ⟨rfl, hb1⟩
  replace hT := hT.grow hb1
  clear hb1
  obtain ⟨a0, a1, a2, b0, b1, b2, c0, c1, c2⟩ := hT.cells
  go_wp2_with fail
  refine (few_any na DA EA _ hA).mono ?_
  rintro e w2 ⟨rfl, hb1⟩
  replace hT := hT.grow hb1
  clear hb1 a0 a1 a2 b0 b1 b2 c0 c1 c2
  by_cases h1 : DA.length ≤ 2048
  case neg =>
    rw [decide_eq_false h1]
    go_wp2_with fail
    go_ret
    exact ⟨rfl, hT.1⟩
  rw [decide_eq_true h1]
  obtain ⟨a0, a1, a2, b0, b1, b2, c0, c1, c2⟩ := hT.cells
  go_wp2_with fail
  refine (few_any nb DB EB _ hB).mono ?_
  rintro e w2 ⟨rfl, hb1⟩
  replace hT := hT.grow hb1
  clear hb1 a0 a1 a2 b0 b1 b2 c0 c1 c2
  by_cases h2 : DB.length ≤ 2048
  case neg =>
    rw [decide_eq_false h2]
    go_wp2_with fail
    go_ret
    exact ⟨rfl, hT.1⟩
  rw [decide_eq_true h2]
  obtain ⟨a0, a1, a2, b0, b1, b2, c0, c1, c2⟩ := hT.cells
  go_wp2_with fail
  refine (few_any nc DC EC _ hC).mono ?_
  rintro e w2 ⟨rfl, hb1⟩
  replace hT := hT.grow hb1
  clear hb1 a0 a1 a2 b0 b1 b2 c0 c1 c2
  by_cases h3 : DC.length ≤ 2048
  case neg =>
    rw [decide_eq_false h3]
    go_wp2_with fail
    go_ret
    exact ⟨rfl, hT.1⟩
  rw [decide_eq_true h3]
  have hx := fun W => compare_any na DA EA nb DB EB W (by omega) (by omega) hEA hEB
  have hy := fun W => compare_any nb DB EB nc DC EC W (by omega) (by omega) hEB hEC
  have hz := fun W => compare_any na DA EA nc DC EC W (by omega) (by omega) hEA hEC
  have hsw := fun W => compare_any nb DB EB na DA EA W (by omega) (by omega) hEB hEA
  have hself := fun W => compare_any na DA EA na DA EA W (by omega) (by omega) hEA hEA
  rw [compareM_swap ⟨na, DA, EA⟩ ⟨nb, DB, EB⟩] at hsw
  rw [show compareM ⟨na, DA, EA⟩ ⟨na, DA, EA⟩ = 0 by have := compareM_swap ⟨na, DA, EA⟩ ⟨na, DA, EA⟩; omega] at hself
  have bx := compareM_bd ⟨na, DA, EA⟩ ⟨nb, DB, EB⟩
  have bz := compareM_bd ⟨na, DA, EA⟩ ⟨nc, DC, EC⟩
  have by_ := compareM_bd ⟨nb, DB, EB⟩ ⟨nc, DC, EC⟩
  have htr := compareM_trans ⟨na, DA, EA⟩ ⟨nb, DB, EB⟩ ⟨nc, DC, EC⟩
  have hzero := @compareM_zero ⟨na, DA, EA⟩ ⟨nb, DB, EB⟩
  have hra := fun W => right_any na DA EA W (by omega) hEA
  have hrb := fun W => right_any nb DB EB W (by omega) hEB
  have heq := eq_dec na DA EA nb DB EB
  generalize compareM ⟨na, DA, EA⟩ ⟨nb, DB, EB⟩ = X at *
  generalize compareM ⟨nb, DB, EB⟩ ⟨nc, DC, EC⟩ = Y at *
  generalize compareM ⟨na, DA, EA⟩ ⟨nc, DC, EC⟩ = Z at *
  generalize Dec.right ⟨na, DA, EA⟩ = RA at *
  generalize Dec.right ⟨nb, DB, EB⟩ = RB at *
  obtain ⟨bx1, bx2⟩ := bx
  obtain ⟨by1, by2⟩ := by_
  obtain ⟨bz1, bz2⟩ := bz
  have hzero2 : RA = true → RB = true → (X == 0) = decide (Dec.mk na DA EA = Dec.mk nb DB EB) := fun h4 h5 => by
    have := hzero h4 h5
    rw [Bool.eq_iff_iff, beq_iff_eq, decide_eq_true_iff, this]
  clear hzero
  generalize decide (Dec.mk na DA EA = Dec.mk nb DB EB) = B at *
  have HX := hq hx
  have HY := hq hy
  have HZ := hq hz
  have HSW := hq hsw
  have HSELF := hq hself
  have HRA := hq hra
  have HRB := hq hrb
  have HEQ := hq heq
  have HTR := hq htr
  have HZERO := hq hzero2
  clear hx hy hz hsw hself hra hrb heq htr hzero2
  obtain ⟨a0, a1, a2, b0, b1, b2, c0, c1, c2⟩ := hT.cells
  go_wp2_with fail
  refine (HX.o _).mono ?_
  rintro e w2 ⟨rfl, hb1⟩
  replace hT := hT.grow hb1
  clear hb1 a0 a1 a2 b0 b1 b2 c0 c1 c2
  obtain ⟨a0, a1, a2, b0, b1, b2, c0, c1, c2⟩ := hT.cells
  go_wp2_with fail
  refine (HY.o _).mono ?_
  rintro e w2 ⟨rfl, hb1⟩
  replace hT := hT.grow hb1
  clear hb1 a0 a1 a2 b0 b1 b2 c0 c1 c2
  obtain ⟨a0, a1, a2, b0, b1, b2, c0, c1, c2⟩ := hT.cells
  go_wp2_with fail
  refine (HZ.o _).mono ?_
  rintro e w2 ⟨rfl, hb1⟩
  replace hT := hT.grow hb1
  clear hb1 a0 a1 a2 b0 b1 b2 c0 c1 c2
  obtain ⟨a0, a1, a2, b0, b1, b2, c0, c1, c2⟩ := hT.cells
  go_upto_region 8 with fail
  go_cut [71] (fun c wx => c = .bool false ∧ Trip w na DA EA nb DB EB nc DC EC wx)
  case first =>
    have q1 : decide (X < -1) = false := decide_eq_false (by omega)
    have q2 : decide (1 < X) = false := decide_eq_false (by omega)
    go_wp2_with fail
    refine (HSW.o _).mono ?_
    rintro e w2 ⟨rfl, hb1⟩
    replace hT := hT.grow hb1
    clear hb1 a0 a1 a2 b0 b1 b2 c0 c1 c2
    obtain ⟨a0, a1, a2, b0, b1, b2, c0, c1, c2⟩ := hT.cells
    go_wp2_with fail
    refine (HSELF.o _).mono ?_
    rintro e w2 ⟨rfl, hb1⟩
    replace hT := hT.grow hb1
    clear hb1 a0 a1 a2 b0 b1 b2 c0 c1 c2
    by_cases g1 : X ≤ 0
    · by_cases g2 : Y ≤ 0
      · have g3 : Z ≤ 0 := HTR.o g1 g2
        go_wp2_with fail
        go_meet
        exact ⟨by rw [decide_eq_false (show ¬ 0 < Z by omega)], hT⟩
      · go_wp2_with fail
        go_meet
        exact ⟨rfl, hT⟩
    · go_wp2_with fail
      go_meet
      exact ⟨rfl, hT⟩
  case rest =>
    clear hT a0 a1 a2 b0 b1 b2 c0 c1 c2
    obtain ⟨rfl, hT⟩ := hcut
    obtain ⟨a0, a1, a2, b0, b1, b2, c0, c1, c2⟩ := hT.cells
    go_upto_region 10 with fail
    go_cut [85] (fun c wx => c = .bool false ∧ Trip w na DA EA nb DB EB nc DC EC wx)
    case first =>
      go_wp2_with fail
      refine (HRA.o _).mono ?_
      rintro e w2 ⟨rfl, hb1⟩
      replace hT := hT.grow hb1
      clear hb1 a0 a1 a2 b0 b1 b2 c0 c1 c2
      cases RA with
      | false =>
        go_wp2_with fail
        go_meet
        exact ⟨rfl, hT⟩
      | true =>
        obtain ⟨a0, a1, a2, b0, b1, b2, c0, c1, c2⟩ := hT.cells
        go_wp2_with fail
        refine (HRB.o _).mono ?_
        rintro e w2 ⟨rfl, hb1⟩
        replace hT := hT.grow hb1
        clear hb1 a0 a1 a2 b0 b1 b2 c0 c1 c2
        obtain ⟨a0, a1, a2, b0, b1, b2, c0, c1, c2⟩ := hT.cells
        cases RB with
        | false =>
          go_wp2_with fail
          go_meet
          exact ⟨rfl, hT⟩
        | true =>
          have heq := HEQ.o
          have hxz := HZERO.o (by simp) (by simp)
          go_wp2_with fail
          go_meet
          exact ⟨rfl, hT⟩
    case rest =>
      clear hT a0 a1 a2 b0 b1 b2 c0 c1 c2
      obtain ⟨rfl, hT⟩ := hcut
      have hb := hT.1
      clear hT HX HY HZ HSW HSELF HRA HRB HEQ HTR HZERO
      have hcmp := ofM_cmp i k (decDigits_short i hi.1 hi.2).1 (decDigits_short k hk.1 hk.2).1
      have b1 := ofM_bd i hi.1 hi.2
      have b2 := ofM_bd k hk.1 hk.2
      have o1 := fun W h => of_int i hi.1 hi.2 W (Itoas.grow HIi.o h)
      have o2 := fun W h => of_int k hk.1 hk.2 W (Itoas.grow HIk.o h)
      have l1 := sg_lt (x := i - k)
      have l2 := sg_zero (x := i - k)
      generalize ofM i = d1 at *
      generalize ofM k = d2 at *
      obtain ⟨n1, D1, E1⟩ := d1
      obtain ⟨n2, D2, E2⟩ := d2
      simp only at b1 b2
      have HC := hq fun W => compare_any n1 D1 E1 n2 D2 E2 W (by omega) (by omega) b1.2 b2.2
      rw [hcmp] at HC
      clear hcmp
      generalize sg (i - k) = S at *
      have e1 : Hq (decide (S < 0) = decide (i < k)) := hq (decide_eq_decide.2 (by omega))
      have e2 : Hq ((S == 0) = (i == k)) := hq (by rw [Bool.eq_iff_iff, beq_iff_eq, beq_iff_eq]; omega)
      have O1 := hq o1
      have O2 := hq o2
      clear o1 o2 l1 l2
      go_wp2_with fail
      refine (O1.o _ hb).mono ?_
      rintro e w2 ⟨rfl, hb1⟩
      simp only [Dec.val]
      have hb' := below_trans hb hb1
      clear hb hb1
      go_wp2_with fail
      refine (O2.o _ hb').mono ?_
      rintro e w3 ⟨rfl, hb1⟩
      simp only [Dec.val]
      have hb := below_trans hb' hb1
      clear hb' hb1
      go_wp2_with fail
      refine (HC.o _).mono ?_
      rintro e w4 ⟨rfl, hb1⟩
      have hb' := below_trans hb hb1
      clear hb hb1
      have e1 := e1.o
      have e2 := e2.o
      go_wp2_with fail
      go_ret
      exact ⟨rfl, hb'⟩
end Go.Proofs.YtpgdmkhcdfhhaaaDoor
