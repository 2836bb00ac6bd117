/-
  WALKS: the document's Right of paths.
-/
import Derived.Test.YtmadgdafgkleiaaGreatDoorRua
import Derived.Test.YtmadgdafgkleiaaGreatDoorRefV
namespace Go.Proofs.YtmadgdafgkleiaaGreatDoor
open Go.RowKit
set_option maxHeartbeats 2000000 in
set_option maxRecDepth 1000000 in
theorem rright7_any (p : SRow) (W : World) (hp : p.ok W) (hm : Room p.l) : Calls Tryz.prog 30 #[p.v] W (BoolPost (pgoodB p.l) W) := by
  obtain ⟨o, cap, l⟩ := p
  have HPO := hq hp
  have hpc := hp.le
  have hpm := hp.cp
  unfold maxLen at hpm
  have HVL := hq (fun x (hx : x ∈ l) WW => rvalid_any (st x) WW (by rw [st_size]; exact hm x hx))
  have HP : Hq (∀ b W', pgoodB l = b → Below W.heap.size W W' → BoolPost (pgoodB l) W (.returned (.bool b)) W') := hq (fun b W' h1 h2 => ⟨by rw [h1], h2⟩)
  have HM : Hq (pgoodB l = (decide (l.length ≤ 64) && l.all fun x => (valid (st x)).2)) := hq rfl
  simp only at hpc hpm ⊢
  unfold SRow.v
  generalize BoolPost (pgoodB l) W = PP at *
  clear hp hm
  simp only
  go_enter Tryz.func30, Tryz.ntmps30
  go_wp2_with fail
  go_loopg [3, 4, 5, 12] l.length (fun gk u _ _ _ wr => ∃ i : Nat, i + gk ≤ l.length ∧ l.length ≤ i + gk ∧ u = .int .i64 (i : Int) ∧ Hq ((l.take i).all (fun x => (valid (st x)).2) = true) ∧ Hq (Below W.heap.size W wr))
  case atStart => exact ⟨0, by omega, by omega, rfl, hq (by simp), hq (Below.refl _ _)⟩
  case round =>
    obtain ⟨i, hi1, hi2, rfl, hall, hb⟩ := hrel
    by_cases hil : i < l.length
    · have hiz : (i : Int) < (l.length : Int) := by omega
      obtain ⟨b, f, rfl, c0⟩ := strs_at HPO.o.rd hb.o hil
      simp only at c0
      have HC := hq (HVL.o l[i] (List.getElem_mem hil))
      have HT := hq (all_take (fun x => (valid (st x)).2) hil)
      have HBD := hq (@all_bad _ l i (fun x => (valid (st x)).2) hil)
      generalize l[i] = x at *
      generalize hV : valid (st x) = V at *
      obtain ⟨vn, vb⟩ := V
      simp only at HC HT HBD
      clear HVL hV HPO
      cases vb with
      | true =>
        clear HP HBD
        go_wp2_with fail
        refine (HC.o _).mono ?_
        rintro e W2 ⟨rfl, rfl⟩
        clear HC
        go_wp2_with fail
        go_roundg (gk - 1)
        case measure => omega
        case rel => exact ⟨i + 1, by omega, by omega, int_eq (by omega), hq (by rw [HT.o, hall.o]; rfl), hb⟩
      | false =>
        have HV := hq (HP.o false wr (by rw [HM.o, HBD.o rfl, Bool.and_false]) hb.o)
        clear HP HBD HT hb
        go_wp2_with fail
        refine (HC.o _).mono ?_
        rintro e W2 ⟨rfl, rfl⟩
        clear HC
        go_wp2_with fail
        first | exact HV.o | (go_ret; exact HV.o)
    · have hiz : ¬ (i : Int) < (l.length : Int) := by omega
      have hall2 := hall.o
      rw [List.take_of_length_le (by omega)] at hall2
      by_cases h64 : l.length ≤ 64
      · have h64z : (l.length : Int) ≤ 64 := by omega
        have hd : decide ((l.length : Int) ≤ 64) = true := decide_eq_true h64z
        have HV := hq (HP.o true wr (by rw [HM.o, hall2, decide_eq_true h64]; rfl) hb.o)
        clear HP HVL HPO hall hb hall2
        go_wp2_with fail
        first | exact HV.o | (go_ret; exact HV.o)
      · have h64z : ¬ (l.length : Int) ≤ 64 := by omega
        have hd : decide ((l.length : Int) ≤ 64) = false := decide_eq_false h64z
        have HV := hq (HP.o false wr (by rw [HM.o, decide_eq_false h64]; rfl) hb.o)
        clear HP HVL HPO hall hb hall2
        go_wp2_with fail
        first | exact HV.o | (go_ret; exact HV.o)
/-! ### Index -/
end Go.Proofs.YtmadgdafgkleiaaGreatDoor

