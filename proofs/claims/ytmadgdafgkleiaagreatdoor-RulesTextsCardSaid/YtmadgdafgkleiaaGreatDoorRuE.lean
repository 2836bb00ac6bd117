/-
  WALKS: the document's Find and Right of layer 18.
-/
import Derived.Test.YtmadgdafgkleiaaGreatDoorRuD
import Derived.Test.YtmadgdafgkleiaaGreatDoorRuF
import Derived.Test.YtmadgdafgkleiaaGreatDoorPxq
namespace Go.Proofs.YtmadgdafgkleiaaGreatDoor
open Go.RowKit
set_option maxHeartbeats 2000000 in
set_option maxRecDepth 1000000 in
theorem rright18_any (o : Option Addr) (cap : Nat) (l : List RU) (W : World) (h : RulesOk W o cap l) : Calls Tryz.prog 18 #[.slice o l.length cap] W (BoolPost (rgoodB l) W) := by
  have HRU := hq h
  have hpc := h.le
  have hpm := h.cp
  unfold maxLen at hpm
  have HVL := hq (fun (r : RU) (hr : r ∈ l) WW => rvalid_any (st r.k) WW (by rw [st_size]; exact (h.km r hr).1))
  have HPR := hq (fun (r : RU) (hr : r ∈ l) WW (hp : r.p.ok WW) => rright7_any r.p WW hp (h.km r hr).2)
  have HP : Hq (∀ b W', rgoodB l = b → Below W.heap.size W W' → BoolPost (rgoodB l) W (.returned (.bool b)) W') := hq (fun b W' h1 h2 => ⟨by rw [h1], h2⟩)
  have HM : Hq (rgoodB l = (decide (l.length ≤ 32) && l.all fun r => (valid (st r.k)).2 && pgoodB r.p.l)) := hq rfl
  generalize BoolPost (rgoodB l) W = PP at *
  clear h
  unfold BoolPost at HPR
  go_enter Tryz.func18, Tryz.ntmps18
  go_wp2_with fail
  go_loopg [3] l.length (fun gk u wr => ∃ i : Nat, i + gk ≤ l.length ∧ l.length ≤ i + gk ∧ u = .int .i64 (i : Int) ∧ Hq ((l.take i).all (fun r => (valid (st r.k)).2 && pgoodB r.p.l) = true) ∧ Hq (Below W.heap.size W wr))
  case atStart => exact ⟨0, by omega, by omega, rfl, hq (by simp), hq (Below.refl _ _)⟩
  case round =>
    obtain ⟨i, hi1, hi2, rfl, hall, hb⟩ := hrel
    by_cases hil : i < l.length
    · have hiz : (i : Int) < (l.length : Int) := by omega
      obtain ⟨b, f, rfl, c0, c1, hok⟩ := HRU.o.rd.grow hb.o i hil
      have HC := hq (HVL.o l[i] (List.getElem_mem hil))
      have HPC := hq (HPR.o l[i] (List.getElem_mem hil))
      have HT := hq (all_take (fun r : RU => (valid (st r.k)).2 && pgoodB r.p.l) hil)
      have HBD := hq (@all_bad _ l i (fun r : RU => (valid (st r.k)).2 && pgoodB r.p.l) hil)
      have HOK := hq hok
      have HK1 := hq (fun (W2 : World) (hb2 : Below wr.heap.size wr W2) => (hb2.cell (p := ⟨b, f + i * 2 + 1, none⟩) (cell_blk c1)).trans c1)
      generalize l[i] = r at *
      obtain ⟨⟨po, pc, pl⟩, k⟩ := r
      simp only at HC HPC HT HBD c0 c1 HOK HK1
      unfold SRow.v at c0 HPC
      simp only at c0 HPC
      have HPC2 := hq (HPC.o wr HOK.o)
      clear HVL HPR HRU hok HOK HPC
      generalize hV : valid (st k) = V at *
      obtain ⟨vn, vb⟩ := V
      simp only at HC HT HBD
      clear hV
      go_wp2_with fail
      refine HPC2.o.mono ?_
      rintro e W2 ⟨rfl, hb3⟩
      have c2 := HK1.o W2 hb3
      have HB3 := hq (below_trans hb.o hb3)
      clear HPC2 hb3 hb c0 c1 HK1
      go_wp2_with fail
      refine (HC.o _).mono ?_
      rintro e W4 ⟨rfl, rfl⟩
      clear HC c2
      generalize pgoodB pl = pb at *
      cases pb with
      | false =>
        have HV := hq (HP.o false _ (by rw [HM.o, HBD.o (Bool.and_false _), Bool.and_false]) HB3.o)
        clear HP HBD HT HB3 HM
        go_wp2_with fail
        first | exact HV.o | (go_ret; exact HV.o)
      | true =>
        cases vb with
        | false =>
          have HV := hq (HP.o false _ (by rw [HM.o, HBD.o rfl, Bool.and_false]) HB3.o)
          clear HP HBD HT HB3 HM
          go_wp2_with fail
          first | exact HV.o | (go_ret; exact HV.o)
        | true =>
          clear HP HBD HM
          go_wp2_with fail
          go_roundg (gk - 1)
          case measure => omega
          case rel => exact ⟨i + 1, by omega, by omega, int_eq (by omega), hq (by rw [HT.o, hall.o]; rfl), HB3⟩
    · have hiz : ¬ (i : Int) < (l.length : Int) := by omega
      have hAll : (l.all fun r => (valid (st r.k)).2 && pgoodB r.p.l) = true := by have := hall.o; rwa [List.take_of_length_le (by omega)] at this
      by_cases h32 : l.length ≤ 32
      · have hz : (l.length : Int) ≤ 32 := by omega
        have HV := hq (HP.o true wr (by rw [HM.o, hAll, decide_eq_true h32]; rfl) hb.o)
        clear HP HVL HPR HRU hall hb HM hAll h32
        go_wp2_with fail
        first | exact HV.o | (go_ret; exact HV.o)
      · have hz : ¬ (l.length : Int) ≤ 32 := by omega
        have HV := hq (HP.o false wr (by rw [HM.o, decide_eq_false h32]; rfl) hb.o)
        clear HP HVL HPR HRU hall hb HM hAll h32
        go_wp2_with fail
        first | exact HV.o | (go_ret; exact HV.o)
end Go.Proofs.YtmadgdafgkleiaaGreatDoor

