/-
  WALKS: the document's line and Print of layer 18.
-/
import Derived.Test.YtmadgdafgkleiaaGreatDoorRuL
import Derived.Test.YtmadgdafgkleiaaGreatDoorRuE
import Derived.Test.YtmadgdafgkleiaaGreatDoorPxU
import Derived.Test.YtmadgdafgkleiaaGreatDoorQuoteR
namespace Go.Proofs.YtmadgdafgkleiaaGreatDoor
open Go.RowKit
set_option maxHeartbeats 2000000 in
set_option maxRecDepth 1000000 in
theorem rline18_any (p : SRow) (k : Bs) (W : World) (hp : p.ok W) (hm : ShtT p.l) (hk : k.length ≤ 134217728) :
    Calls Tryz.prog 19 #[.agg #[p.v, .string (st k)]] W fun e W' => e = .returned (.string (st (lineM p.l k))) ∧ Below W.heap.size W W' := by
  have hb1 := below_alloc W (.cells #[p.v, .string (st k)] 33)
  have HX := hq (Whole.made W 33 #[p.v, .string (st k)])
  have HB1 := hq hb1
  have HPT := hq (rtext7_any p _ (hp.grow hb1) hm)
  have HQ1 := hq (fun WW (_ : Below W.heap.size W WW) => rquote_any (st (ptxM p.l).1) WW (by rw [st_size]; have := ptxM_len p.l hm; omega))
  have HQ2 := hq (fun WW (_ : Below W.heap.size W WW) => rquote_any (st k) WW (by rw [st_size]; omega))
  have hl1 := ptxM_len p.l hm
  have hl2 := quoteM_len (st (ptxM p.l).1)
  have hl3 := quoteM_len (st k)
  rw [st_size] at hl2 hl3
  have HLN : Hq (lineM p.l k = (quoteM (st (ptxM p.l).1)).1 ++ [32] ++ (quoteM (st k)).1 ++ [10]) := hq rfl
  have x0 := HX.o.at_ 0
  generalize lineM p.l k = LM at *
  obtain ⟨o, cap, l⟩ := p
  unfold SRow.v at *
  simp only at *
  unfold PtxPost at HPT
  generalize ptxM l = TX at *
  obtain ⟨tx, te⟩ := TX
  simp only at *
  clear hp hb1 hm
  generalize quoteM (st tx) = Q1 at *
  generalize quoteM (st k) = Q2 at *
  obtain ⟨q1, e1⟩ := Q1
  obtain ⟨q2, e2⟩ := Q2
  simp only at *
  go_enter Tryz.func19, Tryz.ntmps19
  go_upto_region 1 with fail
  generalize W.alloc (.cells #[.slice o l.length cap, .string (st k)] 33) = W1 at *
  go_wp2_with fail
  refine HPT.o.mono ?_
  rintro e W2 ⟨rfl, hb2⟩
  have HB2 := hq (below_trans HB1.o hb2)
  have HX2 := hq (HX.o.grow hb2)
  have HQ := hq (HQ1.o W2 HB2.o)
  clear hb2 HPT HQ1 x0 HX
  go_wp2_with fail
  refine HQ.o.mono ?_
  rintro e W3 ⟨rfl, hb3⟩
  have HB3 := hq (below_trans HB2.o hb3)
  have HX3 := hq (HX2.o.grow hb3)
  have HQQ := hq (HQ2.o W3 HB3.o)
  have x1 := HX3.o.at_ 1
  clear hb3 HQ HX2 HQ2
  go_wp2_with fail
  refine HQQ.o.mono ?_
  rintro e W4 ⟨rfl, hb4⟩
  have HB4 := hq (below_trans HB3.o hb4)
  have z1 : (st q1).size = q1.length := st_size q1
  have z2 : (st q2).size = q2.length := st_size q2
  have n1 : ¬ 9223372036854775807 < q1.length + 1 := by omega
  have n2 : ¬ 9223372036854775807 < q1.length + 1 + q2.length := by omega
  have n3 : ¬ 9223372036854775807 < q1.length + 1 + q2.length + 1 := by omega
  have n4 : ¬ 9223372036854775807 ≤ q1.length := by omega
  have n5 : ¬ 9223372036854775807 ≤ q1.length + 1 + q2.length := by omega
  clear hb4 HQQ HX3 x1 hl1 hl2 hl3 hk
  go_wp2_with fail
  have HV : Hq (st q1 ++ ⟨#[32]⟩ ++ st q2 ++ ⟨#[10]⟩ = st LM) := hq (by
    rw [HLN.o, show (⟨#[32]⟩ : ByteArray) = st [32] from rfl, show (⟨#[10]⟩ : ByteArray) = st [10] from rfl, cat_bytes, cat_bytes, cat_bytes])
  first | exact ⟨by rw [HV.o], HB4.o⟩ | (go_ret; exact ⟨by rw [← HV.o]; rfl, HB4.o⟩)
set_option maxHeartbeats 2000000 in
set_option maxRecDepth 1000000 in
theorem rprint18_any (o : Option Addr) (cap : Nat) (l : List RU) (W : World) (h : RulesOk W o cap l) (hsh : ShtR l) : Calls Tryz.prog 7 #[.slice o l.length cap] W (PtxPost (printM l) W) := by
  have HRI := hq (rright18_any o cap l W h)
  have HRU := hq h
  have hpc := h.le
  have hpm := h.cp
  have HSH := hq hsh
  unfold maxLen at hpm
  have HP : Hq (∀ x W', printM l = x → Below W.heap.size W W' → PtxPost (printM l) W (.returned (.tuple #[.string (st x.1), .int .i64 x.2])) W') := hq (fun x W' h1 h2 => ⟨by rw [h1], h2⟩)
  have HD : Hq (printM l = if rgoodB l = true then (linesB l, 0) else ([], 1)) := hq rfl
  have HG : Hq (rgoodB l = true → l.length ≤ 32) := hq (fun h => by unfold rgoodB at h; rw [Bool.and_eq_true] at h; exact of_decide_eq_true h.1)
  generalize PtxPost (printM l) W = PP at *
  clear h hsh
  go_enter Tryz.func7, Tryz.ntmps7
  go_wp2_with fail
  refine HRI.o.mono ?_
  rintro e W1 ⟨rfl, hb1⟩
  have HB1 := hq hb1
  clear hb1 HRI
  generalize rgoodB l = good at *
  cases good with
  | false =>
    have HV := hq (HP.o ([], 1) W1 (by rw [HD.o]; rfl) HB1.o)
    clear HP HD HG
    go_wp2_with fail
    first | exact HV.o | (go_ret2; exact HV.o)
  | true =>
    have h32 := HG.o rfl
    have HD2 : Hq (printM l = (linesB l, 0)) := hq (by rw [HD.o]; rfl)
    clear HD HG
    go_wp2_with fail
    go_loopg [5, 6] l.length (fun gk sv u wr => ∃ i : Nat, i + gk ≤ l.length ∧ l.length ≤ i + gk ∧ u = .int .i64 (i : Int) ∧ sv = .string (st (linesB (l.take i))) ∧ Hq (Below W.heap.size W wr))
    case atStart => exact ⟨0, by omega, by omega, rfl, rfl, HB1⟩
    case round =>
      clear HB1
      obtain ⟨i, hi1, hi2, rfl, rfl, hb⟩ := hrel
      by_cases hil : i < l.length
      · have hiz : (i : Int) < (l.length : Int) := by omega
        obtain ⟨b, f, rfl, c0, c1, hok⟩ := HRU.o.rd.grow hb.o i hil
        have HPT := hq (@linesB_take l i hil)
        have HLN := hq (linesB_len (l.take i) (fun x hx => HSH.o x (List.mem_of_mem_take hx)))
        obtain ⟨hs1, hs2⟩ := HSH.o l[i] (List.getElem_mem hil)
        have hll : (l.take i).length ≤ 32 := by rw [List.length_take]; omega
        have hpt : (linesB (l.take i)).length ≤ 32 * 103884521868 := Nat.le_trans HLN.o (Nat.mul_le_mul_right _ hll)
        have hl1 := lineM_len l[i].p.l l[i].k hs1 hs2
        have HLC := hq (rline18_any l[i].p l[i].k wr hok hs1 hs2)
        have hz1 : (st (linesB (l.take i))).size + (st (lineM l[i].p.l l[i].k)).size ≤ 4398046511104 := by rw [st_size, st_size]; omega
        have HCA : Hq (st (linesB (l.take i)) ++ st (lineM l[i].p.l l[i].k) = st (linesB (l.take (i + 1)))) := hq (by rw [HPT.o, cat_bytes])
        generalize l[i] = r at *
        obtain ⟨⟨po, pc, pl⟩, k⟩ := r
        simp only at *
        unfold SRow.v at *
        simp only at *
        generalize hpt2 : linesB (l.take (i + 1)) = pt2 at *
        have HPT2 := hq hpt2
        clear hpt2
        generalize linesB (l.take i) = pt at *
        generalize lineM pl k = LM at *
        clear HLN HP HD2 hok hs1 hs2 HPT hpt hl1 hll
        go_wp2_with fail
        refine HLC.o.mono ?_
        rintro e W4 ⟨rfl, hb4⟩
        have HB4 := hq (below_trans hb.o hb4)
        clear HLC hb4 c0 c1
        go_wp2_with fail
        go_roundg (gk - 1)
        case measure => omega
        case rel => exact ⟨i + 1, by omega, by omega, int_eq (by omega), by rw [HPT2.o]; exact congrArg Value.string HCA.o, HB4⟩
      · have hiz : ¬ (i : Int) < (l.length : Int) := by omega
        have ht : l.take i = l := List.take_of_length_le (by omega)
        rw [ht]
        have HV := hq (HP.o (linesB l, 0) wr HD2.o hb.o)
        clear HP HD2 hb ht
        go_wp2_with fail
        first | exact HV.o | (go_ret2; exact HV.o)
end Go.Proofs.YtmadgdafgkleiaaGreatDoor

