/-
  WALKS: the document's own size and Compare of layer 2.
-/
import Derived.Test.YtpgdmkhcdfhhaaaDoorNumRef
namespace Go.Proofs.YtpgdmkhcdfhhaaaDoor
open Go.RowKit

/-- the first place at which two texts of digits differ, where what is missing is a nought -/
def rcmp (a b : Bs) : Nat → Nat → Int
  | 0, _ => 0
  | f + 1, i =>
    if i < a.length ∨ i < b.length then
      if (a[i]?.getD 48).toNat < (b[i]?.getD 48).toNat then -1
      else if (b[i]?.getD 48).toNat < (a[i]?.getD 48).toNat then 1
      else rcmp a b f (i + 1)
    else 0
theorem rcmp_succ (a b : Bs) (f i : Nat) : rcmp a b (f + 1) i = if i < a.length ∨ i < b.length then
      if (a[i]?.getD 48).toNat < (b[i]?.getD 48).toNat then -1
      else if (b[i]?.getD 48).toNat < (a[i]?.getD 48).toNat then 1
      else rcmp a b f (i + 1)
    else 0 := rfl
def rsizeM (a b : Dec) : Int :=
  if a.digits = [] ∨ b.digits = [] then (min a.digits.length 1 : Nat) - (min b.digits.length 1 : Nat)
  else if (a.digits.length : Int) + a.exp = b.digits.length + b.exp then rcmp a.digits b.digits (a.digits.length + b.digits.length + 1) 0
  else if (a.digits.length : Int) + a.exp < b.digits.length + b.exp then -1 else 1

theorem twin_made (w : World) (na : Bool) (DA : Bs) (EA : Int) (nb : Bool) (DB : Bs) (EB : Int) : Twin w na DA EA nb DB EB ((w.alloc (.cells #[.bool na, .string (st DA), .int .i64 EA] 23)).alloc (.cells #[.bool nb, .string (st DB), .int .i64 EB] 23)) := by
  have hV := Whole.made (w.alloc (.cells #[.bool na, .string (st DA), .int .i64 EA] 23)) 23 #[.bool nb, .string (st DB), .int .i64 EB]
  rw [World.size_alloc] at hV
  exact ⟨(below_alloc w (.cells #[.bool na, .string (st DA), .int .i64 EA] 23)).alloc (by rw [World.size_alloc]; omega) (.cells #[.bool nb, .string (st DB), .int .i64 EB] 23), (Whole.made w 23 #[.bool na, .string (st DA), .int .i64 EA]).alloc (.cells #[.bool nb, .string (st DB), .int .i64 EB] 23), hV⟩

set_option maxHeartbeats 1000000 in
set_option maxRecDepth 1000000 in
theorem rsize_any (na : Bool) (DA : Bs) (EA : Int) (nb : Bool) (DB : Bs) (EB : Int) (w : World) (hA : DA.length ≤ 1000) (hB : DB.length ≤ 1000) (hEA : -1000000 ≤ EA ∧ EA ≤ 1000000) (hEB : -1000000 ≤ EB ∧ EB ≤ 1000000) (hdA : DA.all isDig = true) (hdB : DB.all isDig = true) :
    Calls Tryd.prog 50 #[.agg #[.bool na, .string (st DA), .int .i64 EA], .agg #[.bool nb, .string (st DB), .int .i64 EB]] w fun e w' => e = .returned (.int .i64 (rsizeM ⟨na, DA, EA⟩ ⟨nb, DB, EB⟩)) ∧ Below w.heap.size w w' := by
  obtain ⟨hEA1, hEA2⟩ := hEA
  obtain ⟨hEB1, hEB2⟩ := hEB
  generalize hR : rsizeM ⟨na, DA, EA⟩ ⟨nb, DB, EB⟩ = R
  have HR := hq hR
  clear hR
  have HDA := hq hdA
  have HDB := hq hdB
  clear hdA hdB
  go_enter Tryd.func50, Tryd.ntmps50
  have hT : Twin w na DA EA nb DB EB ((w.alloc (.cells #[.bool na, .string (st DA), .int .i64 EA] 23)).alloc (.cells #[.bool nb, .string (st DB), .int .i64 EB] 23)) := twin_made w na DA EA nb DB EB
  go_upto_region 1 with fail
  generalize (w.alloc (.cells #[.bool na, .string (st DA), .int .i64 EA] 23)).alloc (.cells #[.bool nb, .string (st DB), .int .i64 EB] 23) = W at *
  obtain ⟨c0, c1, c2, d0, d1, d2⟩ := hT.cells
  by_cases hA0 : DA = []
  · have eA : DA.isEmpty = true := by rw [hA0]; rfl
    have HN : Hq (R = 0 - ((min DB.length 1 : Nat) : Int)) := hq (by rw [← HR.o]; unfold rsizeM; rw [if_pos (.inl hA0)]; simp only [hA0]; rfl)
    clear HR
    subst hA0
    go_wp2_with fail
    go_ret
    exact ⟨by rw [HN.o]; exact ret_one (int_eq (by omega)), hT.1⟩
  · have eA : DA.isEmpty = false := by cases DA with | nil => exact absurd rfl hA0 | cons _ _ => rfl
    by_cases hB0 : DB = []
    · have eB : DB.isEmpty = true := by rw [hB0]; rfl
      have HN : Hq (R = ((min DA.length 1 : Nat) : Int) - 0) := hq (by rw [← HR.o]; unfold rsizeM; rw [if_pos (.inr hB0)]; simp only [hB0]; rfl)
      clear HR
      subst hB0
      go_wp2_with fail
      go_ret
      exact ⟨by rw [HN.o]; exact ret_one (int_eq (by omega)), hT.1⟩
    · have eB : DB.isEmpty = false := by cases DB with | nil => exact absurd rfl hB0 | cons _ _ => rfl
      have HR2 : Hq (R = if (DA.length : Int) + EA = DB.length + EB then rcmp DA DB (DA.length + DB.length + 1) 0 else if (DA.length : Int) + EA < DB.length + EB then -1 else 1) := hq (by
        rw [← HR.o]; unfold rsizeM; exact if_neg (by simp only [not_or]; exact ⟨hA0, hB0⟩))
      clear HR
      by_cases hx : (DA.length : Int) + EA = DB.length + EB
      · have HR3 := hq (HR2.o.trans (if_pos hx))
        have ex : ((DA.length : Int) + EA != DB.length + EB) = false := by rw [hx]; simp
        clear HR2
        go_wp2_with fail
        go_loop [7] (fun a => ∃ k f : Nat, a = .int .i64 k ∧ k ≤ DA.length + DB.length ∧ DA.length + DB.length + 1 ≤ k + f ∧ Hq (rcmp DA DB f k = R)) (fun a => DA.length + DB.length + 1 - (intOf a).toNat)
        case atStart => exact ⟨0, _, rfl, by omega, by omega, hq HR3.o.symm⟩
        case round =>
          obtain ⟨k, f, rfl, hk, hf, hR⟩ := hrel
          obtain ⟨f, rfl⟩ : ∃ g, f = g + 1 := ⟨f - 1, by omega⟩
          have HRS := hq ((rcmp_succ DA DB f k).symm.trans hR.o)
          clear hR
          by_cases hlA : k < DA.length
          · have hin : Hq (k < DA.length ∨ k < DB.length) := hq (.inl hlA)
            have hzA : k < (st DA).size := by rw [st_size]; exact hlA
            have hbX : 48 ≤ ((st DA)[k]'hzA).toNat ∧ ((st DA)[k]'hzA).toNat ≤ 57 := by have h0 := List.all_eq_true.1 HDA.o DA[k] (List.getElem_mem hlA); unfold isDig at h0; exact (by simpa using h0 : 48 ≤ DA[k].toNat ∧ DA[k].toNat ≤ 57)
            have hX : Hq ((DA[k]?.getD 48).toNat = ((st DA)[k]'hzA).toNat) := hq (by rw [List.getElem?_eq_getElem hlA]; rfl)
            generalize eX : ((st DA)[k]'hzA).toNat = X at hX hbX
            have yX : (((st DA)[k]'hzA).toNat : Int) = (X : Int) := by rw [eX]
            clear eX
            by_cases hlB : k < DB.length
            · have hzB : k < (st DB).size := by rw [st_size]; exact hlB
              have hbY : 48 ≤ ((st DB)[k]'hzB).toNat ∧ ((st DB)[k]'hzB).toNat ≤ 57 := by have h0 := List.all_eq_true.1 HDB.o DB[k] (List.getElem_mem hlB); unfold isDig at h0; exact (by simpa using h0 : 48 ≤ DB[k].toNat ∧ DB[k].toNat ≤ 57)
              have hY : Hq ((DB[k]?.getD 48).toNat = ((st DB)[k]'hzB).toNat) := hq (by rw [List.getElem?_eq_getElem hlB]; rfl)
              generalize eY : ((st DB)[k]'hzB).toNat = Y at hY hbY
              have yY : (((st DB)[k]'hzB).toNat : Int) = (Y : Int) := by rw [eY]
              clear eY
              by_cases g1 : X < Y
              · have HN : Hq (R = -1) := hq (by rw [← HRS.o, if_pos hin.o, hX.o, hY.o, if_pos g1])
                clear HRS hX hY
                go_wp2_with fail
                go_ret
                exact ⟨by rw [HN.o]; rfl, hT.1⟩
              · by_cases g2 : Y < X
                · have HN : Hq (R = 1) := hq (by rw [← HRS.o, if_pos hin.o, hX.o, hY.o, if_neg g1, if_pos g2])
                  clear HRS hX hY
                  go_wp2_with fail
                  go_ret
                  exact ⟨by rw [HN.o]; rfl, hT.1⟩
                · have HN : Hq (rcmp DA DB f (k + 1) = R) := hq (by rw [← HRS.o, if_pos hin.o, hX.o, hY.o, if_neg g1, if_neg g2])
                  clear HRS hX hY
                  go_wp2_with fail
                  go_round
                  case rel => exact ⟨k + 1, f, rfl, by omega, by omega, HN⟩
                  case measure => simp [intOf]; omega
            · have hY : Hq ((DB[k]?.getD 48).toNat = 48) := hq (by rw [List.getElem?_eq_none (by omega)]; rfl)
              by_cases g1 : X < 48
              · omega
              · by_cases g2 : 48 < X
                · have HN : Hq (R = 1) := hq (by rw [← HRS.o, if_pos hin.o, hX.o, hY.o, if_neg g1, if_pos g2])
                  clear HRS hX hY
                  go_wp2_with fail
                  go_ret
                  exact ⟨by rw [HN.o]; rfl, hT.1⟩
                · have HN : Hq (rcmp DA DB f (k + 1) = R) := hq (by rw [← HRS.o, if_pos hin.o, hX.o, hY.o, if_neg g1, if_neg g2])
                  clear HRS hX hY
                  go_wp2_with fail
                  go_round
                  case rel => exact ⟨k + 1, f, rfl, by omega, by omega, HN⟩
                  case measure => simp [intOf]; omega
          · by_cases hlB : k < DB.length
            · have hin : Hq (k < DA.length ∨ k < DB.length) := hq (.inr hlB)
              have hzB : k < (st DB).size := by rw [st_size]; exact hlB
              have hbY : 48 ≤ ((st DB)[k]'hzB).toNat ∧ ((st DB)[k]'hzB).toNat ≤ 57 := by have h0 := List.all_eq_true.1 HDB.o DB[k] (List.getElem_mem hlB); unfold isDig at h0; exact (by simpa using h0 : 48 ≤ DB[k].toNat ∧ DB[k].toNat ≤ 57)
              have hY : Hq ((DB[k]?.getD 48).toNat = ((st DB)[k]'hzB).toNat) := hq (by rw [List.getElem?_eq_getElem hlB]; rfl)
              generalize eY : ((st DB)[k]'hzB).toNat = Y at hY hbY
              have yY : (((st DB)[k]'hzB).toNat : Int) = (Y : Int) := by rw [eY]
              clear eY
              have hX : Hq ((DA[k]?.getD 48).toNat = 48) := hq (by rw [List.getElem?_eq_none (by omega)]; rfl)
              by_cases g1 : 48 < Y
              · have HN : Hq (R = -1) := hq (by rw [← HRS.o, if_pos hin.o, hX.o, hY.o, if_pos g1])
                clear HRS hX hY
                go_wp2_with fail
                go_ret
                exact ⟨by rw [HN.o]; rfl, hT.1⟩
              · by_cases g2 : Y < 48
                · omega
                · have HN : Hq (rcmp DA DB f (k + 1) = R) := hq (by rw [← HRS.o, if_pos hin.o, hX.o, hY.o, if_neg g1, if_neg g2])
                  clear HRS hX hY
                  go_wp2_with fail
                  go_round
                  case rel => exact ⟨k + 1, f, rfl, by omega, by omega, HN⟩
                  case measure => simp [intOf]; omega
            · have HN : Hq (R = 0) := hq (by rw [← HRS.o, if_neg (by omega)])
              clear HRS
              go_wp2_with fail
              go_ret
              exact ⟨by rw [HN.o]; rfl, hT.1⟩
      · have HR3 := hq (HR2.o.trans (if_neg hx))
        have ex : ((DA.length : Int) + EA != DB.length + EB) = true := bne_iff_ne.2 hx
        clear HR2
        by_cases hl : (DA.length : Int) + EA < DB.length + EB
        · have HN := hq (HR3.o.trans (if_pos hl))
          clear HR3
          go_wp2_with fail
          go_ret
          exact ⟨by rw [HN.o]; rfl, hT.1⟩
        · have HN := hq (HR3.o.trans (if_neg hl))
          clear HR3
          go_wp2_with fail
          go_ret
          exact ⟨by rw [HN.o]; rfl, hT.1⟩
end Go.Proofs.YtpgdmkhcdfhhaaaDoor
