/-
  WALK: the law NumberBack.
-/
import Derived.Test.YtpgdmkhcdfhhaaaDoorNumBackM
import Derived.Test.YtpgdmkhcdfhhaaaDoorNumInt3
import Derived.Test.YtpgdmkhcdfhhaaaDoorNumOrders
namespace Go.Proofs.YtpgdmkhcdfhhaaaDoor
open Go.RowKit

def Its (w : World) : Prop := ∀ E : Int, -9223372036854775808 ≤ E → E ≤ 9223372036854775807 → Itoas E w
theorem textM_len (d : Dec) (he : -9223372036854775808 ≤ d.exp ∧ d.exp ≤ 9223372036854775807) : (textM d).length ≤ d.digits.length + 1010 := by
  have h := (decDigits_short d.exp he.1 he.2).2
  unfold textM
  split
  · split
    · simp
    · simp only [List.length_append]
      have h1 : (if d.neg = true then [45] else ([] : Bs)).length ≤ 1 := by split <;> simp
      have h2 : (if d.exp ≠ 0 then 101 :: Lib.itoa d.exp else ([] : Bs)).length ≤ 1001 := by split <;> simp <;> omega
      omega
  · simp

set_option maxHeartbeats 2000000 in
set_option maxRecDepth 1000000 in
theorem numberBack (neg : Bool) (D : Bs) (E : Int) (l : Bs) (i : Int) (w : World) (hD : D.length ≤ 9223372036854775807) (hl : l.length ≤ 9223372036854775807)
    (hE : -9223372036854775808 ≤ E ∧ E ≤ 9223372036854775807) (hi : -9223372036854775808 ≤ i ∧ i ≤ 9223372036854775807) (hI : Its w) (hEr : ErrAt w) :
    Calls Tryd.prog 6 #[.agg #[.bool neg, .string (st D), .int .i64 E], .string (st l), .int .i64 i] w fun e w' => e = .returned (.bool true) ∧ Below w.heap.size w w' := by
  have HI := hq hI
  have HER := hq hEr
  clear hI hEr
  go_enter Tryd.func6, Tryd.ntmps6
  have hT := one_made w neg D E
  go_wp2_with fail
  refine (small_any _).mono ?_
  rintro e w1 ⟨rfl, hb1⟩
  replace hT := hT.grow hb1
  clear hb1
  obtain ⟨c0, c1, c2⟩ := hT.cells
  go_wp2_with fail
  refine (few_any neg D E _ hD).mono ?_
  rintro e w2 ⟨rfl, hb1⟩
  replace hT := hT.grow hb1
  clear hb1 c0 c1 c2
  by_cases h1 : D.length ≤ 2048
  case neg =>
    rw [decide_eq_false h1]
    go_wp2_with fail
    go_ret
    exact ⟨rfl, hT.1⟩
  rw [decide_eq_true h1]
  by_cases h2 : 4096 < l.length
  case pos =>
    go_wp2_with fail
    go_ret
    exact ⟨rfl, hT.1⟩
  have hrb := @parseM_textM ⟨neg, D, E⟩
  have hra := fun W => right_any neg D E W (by omega) hE
  have hta := fun W (h : Below w.heap.size w W) => text_any neg D E W (by omega) hE (fun _ => (HI.o E hE.1 hE.2).grow h) (decDigits_short E hE.1 hE.2).2
  have htl := textM_len ⟨neg, D, E⟩ hE
  simp only at htl
  have hpa := fun W => parse_any (st (textM ⟨neg, D, E⟩)) W (by rw [st_size]; omega)
  rw [st_list] at hpa
  generalize Dec.right ⟨neg, D, E⟩ = B at *
  have HRB := hq hrb
  have HRA := hq hra
  have HTA := hq hta
  have HPA := hq hpa
  clear hrb hra hta hpa
  obtain ⟨c0, c1, c2⟩ := hT.cells
  go_wp2_with fail
  refine (HRA.o _).mono ?_
  rintro e w3 ⟨rfl, hb1⟩
  replace hT := hT.grow hb1
  clear hb1 c0 c1 c2
  obtain ⟨c0, c1, c2⟩ := hT.cells
  go_upto_if 27 with fail
  go_cut [] (fun wx => Below w.heap.size w wx)
  case first =>
    cases B with
    | false =>
      go_wp2_with fail
      go_meet
      exact hT.1
    | true =>
      rw [HRB.o (by trivial)] at HPA
      generalize textM ⟨neg, D, E⟩ = t at *
      go_wp2_with fail
      refine (HTA.o _ hT.1).mono ?_
      rintro e w4 ⟨rfl, hb1⟩
      replace hT := hT.grow hb1
      clear hb1 c0 c1 c2
      go_wp2_with fail
      refine (HPA.o _).mono ?_
      rintro e w5 ⟨rfl, hb1⟩
      simp only [Dec.val]
      replace hT := hT.grow hb1
      clear hb1
      obtain ⟨c0, c1, c2⟩ := hT.cells
      have heq := eq_dec neg D E neg D E
      rw [decide_eq_true rfl] at heq
      have hlt := hT.2.lt
      have hN := Whole.made w5 23 #[.bool neg, .string (st D), .int .i64 E]
      obtain ⟨n0, n1, n2⟩ := three_cells hN
      have hb9 : Below w.heap.size w (w5.alloc (.cells #[.bool neg, .string (st D), .int .i64 E] 23)) := hT.1.alloc hT.1.size _
      go_wp2_with fail
      go_meet
      exact hb9
  case rest =>
    clear hT c0 c1 c2 HRB HRA HTA HPA
    have hb := hcut
    clear hcut
    have hpb := fun W => parse_any (st l) W (by rw [st_size]; omega)
    rw [st_list] at hpb
    have hr1 := @parseM_right l
    generalize parseM l = R at *
    obtain ⟨⟨n, D2, E2⟩, x⟩ := R
    have HPB := hq hpb
    have HR1 := hq (fun h : x = 0 => hr1 (m := ⟨n, D2, E2⟩) (by rw [h]))
    clear hpb hr1
    go_wp2_with fail
    refine (HPB.o _).mono ?_
    rintro e w4 ⟨rfl, hb1⟩
    simp only [Dec.val]
    have hb' := below_trans hb hb1
    clear hb hb1
    have hN := Whole.made w4 23 #[.bool n, .string (st D2), .int .i64 E2]
    have hb : Below w.heap.size w (w4.alloc (.cells #[.bool n, .string (st D2), .int .i64 E2] 23)) := hb'.alloc hb'.size _
    clear hb'
    have hof := fun W (h : Below w.heap.size w W) => of_int i hi.1 hi.2 W ((HI.o i hi.1 hi.2).grow h)
    have hod := ofM_bd i hi.1 hi.2
    have hor : (ofM i).right = true := numM_right _ _ (decDigits_short i hi.1 hi.2).1
    have hoi := intM_ofM i hi.1 hi.2
    generalize ofM i = d at *
    obtain ⟨n1, D1, E1⟩ := d
    simp only at hod
    have hin := fun W (h : Below w.heap.size w W) => int_any n1 D1 E1 W (by omega) hod.2 (HER.o.grow h)
    have hri := fun W => right_any n1 D1 E1 W (by omega) hod.2
    rw [hoi] at hin
    rw [hor] at hri
    have HOF := hq hof
    have HIN := hq hin
    have HRI := hq hri
    clear hof hin hri hor hoi hod
    go_upto_region 10 with fail
    go_cut [57] (fun c wx => c = .bool false ∧ Below w.heap.size w wx)
    case first =>
      by_cases hx : x = 0
      · have hr := HR1.o hx
        obtain ⟨q1, q2, q3⟩ := right_bd hr
        have hra := fun W => right_any n D2 E2 W (by omega) ⟨by omega, by omega⟩
        rw [hr] at hra
        have hta := fun W (h : Below w.heap.size w W) => text_any n D2 E2 W (by omega) ⟨by omega, by omega⟩ (fun _ => (HI.o E2 (by omega) (by omega)).grow h) (decDigits_short E2 (by omega) (by omega)).2
        have hne := textM_ne hr
        have hem : (textM ⟨n, D2, E2⟩).isEmpty = false := by cases ht : textM ⟨n, D2, E2⟩ with | nil => exact absurd ht hne | cons _ _ => rfl
        generalize textM ⟨n, D2, E2⟩ = t at *
        have HRA := hq hra
        have HTA := hq hta
        subst hx
        obtain ⟨n0, n1', n2⟩ := three_cells hN
        clear hra hta hr hne HPB HR1 HOF HIN HRI
        go_wp2_with fail
        refine (HRA.o _).mono ?_
        rintro e w5 ⟨rfl, hb1⟩
        replace hN := hN.grow hb1
        replace hb := below_trans hb hb1
        clear hb1 n0 n1' n2
        obtain ⟨n0, n1', n2⟩ := three_cells hN
        go_wp2_with fail
        refine (HTA.o _ hb).mono ?_
        rintro e w6 ⟨rfl, hb1⟩
        replace hb := below_trans hb hb1
        clear hb1 n0 n1' n2
        go_wp2_with fail
        go_meet
        exact ⟨rfl, hb⟩
      · have hx2 : (x == 0) = false := beq_eq_false_iff_ne.2 hx
        go_wp2_with fail
        go_meet
        exact ⟨rfl, hb⟩
    case rest =>
      clear hb hN
      obtain ⟨rfl, hb⟩ := hcut
      go_wp2_with fail
      refine (HOF.o _ hb).mono ?_
      rintro e w5 ⟨rfl, hb1⟩
      simp only [Dec.val]
      replace hb := below_trans hb hb1
      clear hb1
      go_wp2_with fail
      refine (HIN.o _ hb).mono ?_
      rintro e w6 ⟨rfl, hb1⟩
      replace hb := below_trans hb hb1
      clear hb1
      go_wp2_with fail
      refine (HOF.o _ hb).mono ?_
      rintro e w7 ⟨rfl, hb1⟩
      simp only [Dec.val]
      replace hb := below_trans hb hb1
      clear hb1
      go_wp2_with fail
      refine (HRI.o _).mono ?_
      rintro e w8 ⟨rfl, hb1⟩
      replace hb := below_trans hb hb1
      clear hb1
      go_wp2_with fail
      go_ret
      exact ⟨rfl, hb⟩
theorem numberBackB (neg : Bool) (D : Bs) (E : Int) (s : ByteArray) (i : Int) (w : World) (hD : D.length ≤ 9223372036854775807) (hs : s.size ≤ maxLen)
    (hE : -9223372036854775808 ≤ E ∧ E ≤ 9223372036854775807) (hi : -9223372036854775808 ≤ i ∧ i ≤ 9223372036854775807) (hI : Its w) (hEr : ErrAt w) :
    Calls Tryd.prog 6 #[.agg #[.bool neg, .string (st D), .int .i64 E], .string s, .int .i64 i] w fun e w' => e = .returned (.bool true) ∧ Below w.heap.size w w' := by
  have h := numberBack neg D E s.data.toList i w hD (by rw [← size_list]; unfold maxLen at hs; omega) hE hi hI hEr
  rwa [st_of] at h
end Go.Proofs.YtpgdmkhcdfhhaaaDoor
