/-
  WALKS: the document's Text and Of.
-/
import Derived.Test.YtpgdmkhcdfhhaaaDoorNumDec
import Derived.Test.YtpgdmkhcdfhhaaaDoorNumIntM
namespace Go.Proofs.YtpgdmkhcdfhhaaaDoor
open Go.RowKit

set_option maxHeartbeats 1000000 in
set_option maxRecDepth 1000000 in
theorem rtext_any (neg : Bool) (D : Bs) (E : Int) (w : World) (hD : D.length ≤ 1099511627776) (hE : -9223372036854775808 ≤ E ∧ E ≤ 9223372036854775807) :
    Calls Tryd.prog 21 #[.agg #[.bool neg, .string (st D), .int .i64 E]] w fun e w' => e = .returned (.string (st (textM ⟨neg, D, E⟩))) ∧ Below w.heap.size w w' := by
  have hdc := fun W => rdecimal_any E W hE.1 hE.2
  have hL : (Lib.itoa E).length ≤ 1000 := Nat.le_trans (Lib.itoa_length_le _ (by omega) (by omega)) (by omega)
  generalize hR : textM ⟨neg, D, E⟩ = R
  have HR := hq hR
  clear hR
  unfold textM at HR
  have HI := hq hdc
  clear hdc
  go_enter Tryd.func21, Tryd.ntmps21
  go_wp2_with fail
  refine (rright_any neg D E _ hD hE).mono ?_
  rintro e w1 ⟨rfl, hb1⟩
  have hb := (below_alloc w (.cells #[.bool neg, .string (st D), .int .i64 E] 23)).trans (hb1.mono (by rw [World.size_alloc]; omega))
  have hW := (Whole.made w 23 #[.bool neg, .string (st D), .int .i64 E]).grow hb1
  clear hb1
  generalize Dec.right ⟨neg, D, E⟩ = B at *
  cases B with
  | false =>
    have HN := hq (HR.o.symm.trans (if_neg (by simp)))
    clear HR
    go_wp2_with fail
    go_ret
    exact ⟨by rw [HN.o]; rfl, hb⟩
  | true =>
    have HR2 := hq (HR.o.symm.trans (if_pos rfl))
    clear HR
    obtain ⟨c0, c1, c2⟩ := three_cells hW
    go_wp2_with fail
    refine (rnought_any neg D E _).mono ?_
    rintro e w2 ⟨rfl, hb1⟩
    replace hb := below_trans hb hb1
    replace hW := hW.grow hb1
    clear hb1 c0 c1 c2
    obtain ⟨c0, c1, c2⟩ := three_cells hW
    by_cases hz : Dec.mk neg D E = .zero
    · have HN := hq (HR2.o.trans (if_pos hz))
      rw [decide_eq_true hz]
      clear HR2 hz
      go_wp2_with fail
      go_ret
      exact ⟨by rw [HN.o]; rfl, hb⟩
    · have HN := hq (HR2.o.trans (if_neg hz))
      rw [decide_eq_false hz]
      clear HR2 hz
      have hz2 : (st (Lib.itoa E)).size ≤ 1000 := by rw [st_size]; exact hL
      cases neg with
      | true =>
        by_cases he : E = 0
        · have he2 : (E != 0) = false := by simp [he]
          have HN2 : Hq (R = 45 :: D) := hq (by rw [HN.o]; simp [he])
          clear HN he HI
          go_wp2_with fail
          go_ret
          exact ⟨by rw [HN2.o]; exact congrArg (fun x => Ending.returned (.string x)) (cat_st [45] D), hb⟩
        · have he2 : (E != 0) = true := bne_iff_ne.2 he
          have HN2 : Hq (R = ((45 :: D) ++ [101]) ++ Lib.itoa E) := hq (by rw [HN.o]; simp [he])
          clear HN he
          go_wp2_with fail
          refine (HI.o _).mono ?_
          rintro e w3 ⟨rfl, hb2⟩
          replace hb := below_trans hb hb2
          clear hb2
          go_wp2_with fail
          go_ret
          exact ⟨by rw [HN2.o]; exact congrArg (fun x => Ending.returned (.string x)) (show ((st [45] ++ st D) ++ st [101]) ++ st (Lib.itoa E) = st (((45 :: D) ++ [101]) ++ Lib.itoa E) by rw [cat_st, cat_st, cat_st]; rfl), hb⟩
      | false =>
        by_cases he : E = 0
        · have he2 : (E != 0) = false := by simp [he]
          have HN2 : Hq (R = D) := hq (by rw [HN.o]; simp [he])
          clear HN he HI
          go_wp2_with fail
          go_ret
          exact ⟨by rw [HN2.o]; rfl, hb⟩
        · have he2 : (E != 0) = true := bne_iff_ne.2 he
          have HN2 : Hq (R = (D ++ [101]) ++ Lib.itoa E) := hq (by rw [HN.o]; simp [he])
          clear HN he
          go_wp2_with fail
          refine (HI.o _).mono ?_
          rintro e w3 ⟨rfl, hb2⟩
          replace hb := below_trans hb hb2
          clear hb2
          go_wp2_with fail
          go_ret
          exact ⟨by rw [HN2.o]; exact congrArg (fun x => Ending.returned (.string x)) (show (st D ++ st [101]) ++ st (Lib.itoa E) = st ((D ++ [101]) ++ Lib.itoa E) by rw [cat_st, cat_st]), hb⟩

set_option maxHeartbeats 1000000 in
set_option maxRecDepth 1000000 in
theorem rof_any (n : Int) (w : World) (h0 : -9223372036854775808 ≤ n) (h1 : n ≤ 9223372036854775807) :
    Calls Tryd.prog 23 #[.int .i64 n] w (OfPost (ofM n) w) := by
  have hL : (Lib.itoa n).length ≤ 1000 := Nat.le_trans (Lib.itoa_length_le _ (by omega) (by omega)) (by omega)
  have hl2 : (Lib.decDigits n.natAbs).length ≤ 1000 := by
    have h2 : (Lib.decDigits n.natAbs).length ≤ (Lib.itoa n).length := by
      rw [itoa_of]
      split <;> simp
    omega
  have hdc := hq fun W => rdecimal_any n W h0 h1
  have hpp := hq fun W => rparse_any (Lib.itoa n) W (by omega)
  rw [parseM_itoa n hl2] at hpp
  generalize ofM n = d at *
  obtain ⟨dn, DD, DE⟩ := d
  go_enter Tryd.func23, Tryd.ntmps23
  go_wp2_with fail
  have ha := below_alloc w (.cells #[.bool false, .string (st []), .int .i64 0] 23)
  have hW := Whole.made w 23 #[.bool false, .string (st []), .int .i64 0]
  refine (hdc.o _).mono ?_
  rintro e w1 ⟨rfl, hb1⟩
  replace hW := hW.grow hb1
  replace ha := below_trans ha hb1
  clear hb1
  go_wp2_with fail
  refine (hpp.o _).mono ?_
  rintro e w2 ⟨rfl, hb1⟩
  simp only [Dec.val]
  replace hW := hW.grow hb1
  replace ha := below_trans ha hb1
  clear hb1 hdc hpp
  have hsz := ha.size
  have hlt := hW.lt
  have hN := Whole.made w2 23 #[.bool dn, .string (st DD), .int .i64 DE]
  obtain ⟨r0, r1, r2⟩ := three_cells hW
  obtain ⟨n0, n1, n2⟩ := three_cells hN
  have q0 := hW.free 0
  have q1 := hW.free 1
  have q2 := hW.free 2
  go_wp2_with fail
  refine bodyPost_ret (v := (Dec.mk dn DD DE).val) ?_ rfl ?_
  · obtain ⟨z0, z1, z2⟩ := three_cells (set_three hW (.bool dn) (.string (st DD)) (.int .i64 DE) (.cells #[.bool dn, .string (st DD), .int .i64 DE] 23))
    simp [results, Tryd.results23, go_sem, z0, z1, z2, Dec.val]
  · exact ⟨rfl, (((ha.setCell (p := ⟨w.heap.size, 0, none⟩) (by simp) _).setCell (p := ⟨w.heap.size, 1, none⟩) (by simp) _).setCell (p := ⟨w.heap.size, 2, none⟩) (by simp) _).alloc (by simp; omega) _⟩
end Go.Proofs.YtpgdmkhcdfhhaaaDoor
