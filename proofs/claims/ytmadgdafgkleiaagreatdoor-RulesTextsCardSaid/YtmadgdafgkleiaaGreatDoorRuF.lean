/-
  WALKS: rules.Find; pointer.Compare.
-/
import Derived.Test.YtmadgdafgkleiaaGreatDoorRua
namespace Go.Proofs.YtmadgdafgkleiaaGreatDoor
open Go.RowKit
def findM : List RU → List Bs → Bs × Bool
  | [], _ => ([], false)
  | r :: l, q => if matchM r.p.l q then (r.k, true) else findM l q
def FindPost (x : Bs × Bool) (W : World) (e : Ending) (W' : World) : Prop := e = .returned (.tuple #[.string (st x.1), .bool x.2]) ∧ Below W.heap.size W W'
set_option maxHeartbeats 2000000 in
set_option maxRecDepth 1000000 in
theorem find_any (o : Option Addr) (cap : Nat) (l : List RU) (q : SRow) (W : World) (h : RulesOk W o cap l) (hq0 : q.ok W) : Calls Tryz.prog 12 #[.slice o l.length cap, q.v] W (FindPost (findM l q.l) W) := by
  have HRU := hq h
  have hpc := h.le
  have hpm := h.cp
  unfold maxLen at hpm
  have HMA := hq (fun (r : RU) (_hr : r ∈ l) WW (hb : Below W.heap.size W WW) (hp : r.p.ok WW) => match_any r.p q WW hp (hq0.grow hb))
  have HP : Hq (∀ b W', findM l q.l = b → Below W.heap.size W W' → FindPost (findM l q.l) W (.returned (.tuple #[.string (st b.1), .bool b.2])) W') := hq (fun b W' h1 h2 => ⟨by rw [h1], h2⟩)
  have HG0 : Hq (findM l q.l = findM (l.drop 0) q.l) := hq rfl
  generalize FindPost (findM l q.l) W = PP at *
  generalize findM l q.l = RM at *
  clear h hq0
  obtain ⟨qo, qc, ql⟩ := q
  unfold SRow.v
  unfold SRow.v at HMA
  simp only at HMA HG0 ⊢
  go_enter Tryz.func12, Tryz.ntmps12
  go_wp2_with fail
  go_loopg [4, 5, 7, 10] l.length (fun gk _ _ _ u wr => ∃ i : Nat, i + gk ≤ l.length ∧ l.length ≤ i + gk ∧ u = .int .i64 (i : Int) ∧ Hq (RM = findM (l.drop i) ql) ∧ Hq (Below W.heap.size W wr))
  case atStart => exact ⟨0, by omega, by omega, rfl, HG0, hq (Below.refl _ _)⟩
  case round =>
    obtain ⟨i, hi1, hi2, rfl, hall, hb⟩ := hrel
    clear HG0
    by_cases hil : i < l.length
    · have hiz : (i : Int) < (l.length : Int) := by omega
      obtain ⟨b, f, rfl, c0, c1, hok⟩ := HRU.o.rd.grow hb.o i hil
      have HPC := hq (HMA.o l[i] (List.getElem_mem hil))
      have HT := hq (hall.o.trans (by rw [List.drop_eq_getElem_cons hil]; rfl : findM (l.drop i) ql = if matchM l[i].p.l ql then (l[i].k, true) else findM (l.drop (i + 1)) ql))
      have HOK := hq hok
      generalize l[i] = r at *
      obtain ⟨⟨po, pc, pl⟩, k⟩ := r
      simp only at HPC HT c0 c1 HOK
      unfold SRow.v at c0
      simp only at c0
      have hb2 := below_alloc wr (.cells #[.slice po pl.length pc, .string (st k)] 33)
      have HX := hq (Whole.made wr 33 #[.slice po pl.length pc, .string (st k)])
      have HB2 := hq (below_trans hb.o hb2)
      have HOK2 := hq (HOK.o.grow hb2)
      have HCC := hq (HPC.o _ HB2.o HOK2.o)
      have x0 := HX.o.at_ 0
      clear HMA HRU hok HOK HPC hb2 hb hall
      go_upto_region 4 with fail
      generalize wr.alloc (.cells #[.slice po pl.length pc, .string (st k)] 33) = w1 at *
      generalize wr.heap.size = gB at *
      clear c0 c1
      go_wp2_with fail
      refine HCC.o.mono ?_
      rintro e W2 ⟨rfl, hb3⟩
      have x1 := (HX.o.grow hb3).at_ 1
      have HB3 := hq (below_trans HB2.o hb3)
      clear HCC hb3 HB2 HOK2 HX x0
      generalize matchM pl ql = mb at *
      cases mb with
      | true =>
        have HV := hq (HP.o (k, true) W2 (by rw [HT.o]; rfl) HB3.o)
        clear HP HT HB3
        go_wp2_with fail
        first | exact HV.o | (go_ret; exact HV.o) | (go_ret2; exact HV.o)
      | false =>
        have HT2 := hq (show RM = findM (l.drop (i + 1)) ql by rw [HT.o]; rfl)
        clear HP HT
        go_wp2_with fail
        go_roundg (gk - 1)
        case measure => omega
        case rel => exact ⟨i + 1, by omega, by omega, int_eq (by omega), HT2, HB3⟩
    · have hiz : ¬ (i : Int) < (l.length : Int) := by omega
      have HV := hq (HP.o ([], false) wr (by rw [hall.o, List.drop_of_length_le (by omega)]; rfl) hb.o)
      clear HP HMA HRU hall hb
      go_wp2_with fail
      first | exact HV.o | (go_ret; exact HV.o) | (go_ret2; exact HV.o)
end Go.Proofs.YtmadgdafgkleiaaGreatDoor

