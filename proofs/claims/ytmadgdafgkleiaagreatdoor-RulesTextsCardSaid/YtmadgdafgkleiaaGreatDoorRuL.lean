/-
  WALKS: rules.line, rules.Print.
-/
import Derived.Test.YtmadgdafgkleiaaGreatDoorPtp
import Derived.Test.YtmadgdafgkleiaaGreatDoorQuoteQ
import Derived.Test.YtmadgdafgkleiaaGreatDoorQBack
namespace Go.Proofs.YtmadgdafgkleiaaGreatDoor
open Go.RowKit
def lineM (p : List Bs) (k : Bs) : Bs := (quoteM (st (ptxM p).1)).1 ++ [32] ++ (quoteM (st k)).1 ++ [10]
theorem ptxM_len (p : List Bs) (h : ShtT p) : (ptxM p).1.length ≤ 17179869248 := by
  unfold ptxM
  by_cases hg : pgoodB p = true
  · rw [if_pos hg]
    have h64 : p.length ≤ 64 := by unfold pgoodB at hg; rw [Bool.and_eq_true] at hg; exact of_decide_eq_true hg.1
    have := ptext_len 134217728 p h
    have h2 : p.length * (2 * 134217728 + 1) ≤ 64 * (2 * 134217728 + 1) := Nat.mul_le_mul_right _ h64
    show (ptext p).length ≤ _
    omega
  · rw [if_neg hg]; simp
theorem lineM_len (p : List Bs) (k : Bs) (h : ShtT p) (hk : k.length ≤ 134217728) : (lineM p k).length ≤ 103884521868 := by
  unfold lineM
  have h1 := ptxM_len p h
  have h2 := quoteM_len (st (ptxM p).1)
  have h3 := quoteM_len (st k)
  rw [st_size] at h2 h3
  simp only [List.length_append, List.length_singleton]
  omega
set_option maxHeartbeats 2000000 in
set_option maxRecDepth 1000000 in
theorem line_any (p : SRow) (k : Bs) (W : World) (hT : tabs W) (hM : mx W) (hp : p.ok W) (hm : ShtT p.l) (hk : k.length ≤ 134217728) :
    Calls Tryz.prog 16 #[.agg #[p.v, .string (st k)]] W fun e W' => e = .returned (.string (st (lineM p.l k))) ∧ Below W.heap.size W W' := by
  have hb1 := below_alloc W (.cells #[p.v, .string (st k)] 33)
  have HX := hq (Whole.made W 33 #[p.v, .string (st k)])
  have HB1 := hq hb1
  have HPT := hq (ptxt_any p _ (tabs_grow hT hb1) (mx_grow hM hb1) (hp.grow hb1) hm)
  have HQ1 := hq (fun WW (hb : Below W.heap.size W WW) => quote_any (st (ptxM p.l).1) WW (tabs_grow hT hb) (by rw [st_size]; have := ptxM_len p.l hm; omega))
  have HQ2 := hq (fun WW (hb : Below W.heap.size W WW) => quote_any (st k) WW (tabs_grow hT hb) (by rw [st_size]; omega))
  have hl1 := ptxM_len p.l hm
  have hl2 := quoteM_len (st (ptxM p.l).1)
  have hl3 := quoteM_len (st k)
  rw [st_size] at hl2 hl3
  have HLN : Hq (lineM p.l k = (quoteM (st (ptxM p.l).1)).1 ++ [32] ++ (quoteM (st k)).1 ++ [10]) := hq rfl
  have x0 := HX.o.at_ 0
  generalize lineM p.l k = LM at *
  obtain ⟨o, cap, l⟩ := p
  unfold SRow.v at *
  simp only at *
  unfold PtxPost at HPT
  generalize ptxM l = TX at *
  obtain ⟨tx, te⟩ := TX
  simp only at *
  clear hT hM hp hb1 hm
  generalize quoteM (st tx) = Q1 at *
  generalize quoteM (st k) = Q2 at *
  obtain ⟨q1, e1⟩ := Q1
  obtain ⟨q2, e2⟩ := Q2
  simp only at *
  go_enter Tryz.func16, Tryz.ntmps16
  go_upto_region 1 with fail
  generalize W.alloc (.cells #[.slice o l.length cap, .string (st k)] 33) = W1 at *
  go_wp2_with fail
  refine HPT.o.mono ?_
  rintro e W2 ⟨rfl, hb2⟩
  have HB2 := hq (below_trans HB1.o hb2)
  have HX2 := hq (HX.o.grow hb2)
  have HQ := hq (HQ1.o W2 HB2.o)
  clear hb2 HPT HQ1 x0 HX
  go_wp2_with fail
  refine HQ.o.mono ?_
  rintro e W3 ⟨rfl, hb3⟩
  have HB3 := hq (below_trans HB2.o hb3)
  have HX3 := hq (HX2.o.grow hb3)
  have HQQ := hq (HQ2.o W3 HB3.o)
  have x1 := HX3.o.at_ 1
  clear hb3 HQ HX2 HQ2
  go_wp2_with fail
  refine HQQ.o.mono ?_
  rintro e W4 ⟨rfl, hb4⟩
  have HB4 := hq (below_trans HB3.o hb4)
  have z1 : (st q1).size = q1.length := st_size q1
  have z2 : (st q2).size = q2.length := st_size q2
  have n1 : ¬ 9223372036854775807 < q1.length + 1 := by omega
  have n2 : ¬ 9223372036854775807 < q1.length + 1 + q2.length := by omega
  have n3 : ¬ 9223372036854775807 < q1.length + 1 + q2.length + 1 := by omega
  have n4 : ¬ 9223372036854775807 ≤ q1.length := by omega
  have n5 : ¬ 9223372036854775807 ≤ q1.length + 1 + q2.length := by omega
  clear hb4 HQQ HX3 x1 hl1 hl2 hl3 hk
  go_wp2_with fail
  have HV : Hq (st q1 ++ ⟨#[32]⟩ ++ st q2 ++ ⟨#[10]⟩ = st LM) := hq (by
    rw [HLN.o, show (⟨#[32]⟩ : ByteArray) = st [32] from rfl, show (⟨#[10]⟩ : ByteArray) = st [10] from rfl, cat_bytes, cat_bytes, cat_bytes])
  first | exact ⟨by rw [HV.o], HB4.o⟩ | (go_ret; exact ⟨by rw [← HV.o]; rfl, HB4.o⟩)
def ShtR (l : List RU) : Prop := ∀ r ∈ l, ShtT r.p.l ∧ r.k.length ≤ 134217728
def linesB (l : List RU) : Bs := l.flatMap fun r => lineM r.p.l r.k
def printM (l : List RU) : Bs × Int := if rgoodB l = true then (linesB l, 0) else ([], 1)
theorem linesB_take {l : List RU} {i : Nat} (hi : i < l.length) : linesB (l.take (i + 1)) = linesB (l.take i) ++ lineM l[i].p.l l[i].k := by
  rw [List.take_succ_eq_append_getElem hi]
  unfold linesB
  rw [List.flatMap_append]
  simp
theorem linesB_len : ∀ (l : List RU), ShtR l → (linesB l).length ≤ l.length * 103884521868
  | [], _ => by simp [linesB]
  | r :: l, h => by
    have ih := linesB_len l (fun y hy => h y (List.mem_cons_of_mem _ hy))
    have h1 := lineM_len r.p.l r.k (h r List.mem_cons_self).1 (h r List.mem_cons_self).2
    unfold linesB at ih ⊢
    rw [List.flatMap_cons, List.length_append, List.length_cons, Nat.succ_mul]
    omega
set_option maxHeartbeats 2000000 in
set_option maxRecDepth 1000000 in
theorem print_any (o : Option Addr) (cap : Nat) (l : List RU) (W : World) (hT : tabs W) (hM : mx W) (h : RulesOk W o cap l) (hsh : ShtR l) : Calls Tryz.prog 6 #[.slice o l.length cap] W (PtxPost (printM l) W) := by
  have HRI := hq (rulright_any o cap l W hT h)
  have HRU := hq h
  have hpc := h.le
  have hpm := h.cp
  have HTM := hq (And.intro hT hM)
  have HSH := hq hsh
  unfold maxLen at hpm
  have HP : Hq (∀ x W', printM l = x → Below W.heap.size W W' → PtxPost (printM l) W (.returned (.tuple #[.string (st x.1), .int .i64 x.2])) W') := hq (fun x W' h1 h2 => ⟨by rw [h1], h2⟩)
  have HD : Hq (printM l = if rgoodB l = true then (linesB l, 0) else ([], 1)) := hq rfl
  have HG : Hq (rgoodB l = true → l.length ≤ 32) := hq (fun h => by unfold rgoodB at h; rw [Bool.and_eq_true] at h; exact of_decide_eq_true h.1)
  generalize PtxPost (printM l) W = PP at *
  clear h hT hM hsh
  go_enter Tryz.func6, Tryz.ntmps6
  go_wp2_with fail
  refine HRI.o.mono ?_
  rintro e W1 ⟨rfl, hb1⟩
  have HB1 := hq hb1
  clear hb1 HRI
  generalize rgoodB l = good at *
  cases good with
  | false =>
    have HV := hq (HP.o ([], 1) W1 (by rw [HD.o]; rfl) HB1.o)
    clear HP HD HG
    go_wp2_with fail
    first | exact HV.o | (go_ret; exact HV.o)
  | true =>
    have h32 := HG.o rfl
    have HD2 : Hq (printM l = (linesB l, 0)) := hq (by rw [HD.o]; rfl)
    clear HD HG
    go_wp2_with fail
    have hbd : Bld W1.heap.size W1.heap.size [] (W1.alloc (.cells #[.pointer none, .slice none 0 0] 42)) := Lib.IsBuilderF.of (Lib.fresh_isBuilder _ _ _)
    have HBD := hq hbd
    have HB2 := hq (below_alloc W1 (.cells #[.pointer none, .slice none 0 0] 42))
    clear hbd
    go_loopg [6, 12] l.length (fun gk _ u wr => ∃ i : Nat, i + gk ≤ l.length ∧ l.length ≤ i + gk ∧ u = .int .i64 (i : Int) ∧ Hq (Bld W1.heap.size W1.heap.size (linesB (l.take i)) wr) ∧ Hq (Below W1.heap.size W1 wr))
    case atStart => exact ⟨0, by omega, by omega, rfl, HBD, HB2⟩
    case round =>
      clear HBD HB2
      obtain ⟨i, hi1, hi2, rfl, hbd, hb⟩ := hrel
      have HBW := hq (below_trans HB1.o hb.o)
      by_cases hil : i < l.length
      · have hiz : (i : Int) < (l.length : Int) := by omega
        obtain ⟨b, f, rfl, c0, c1, hok⟩ := HRU.o.rd.grow HBW.o i hil
        have HPT := hq (@linesB_take l i hil)
        have HLN := hq (linesB_len (l.take i) (fun x hx => HSH.o x (List.mem_of_mem_take hx)))
        obtain ⟨hs1, hs2⟩ := HSH.o l[i] (List.getElem_mem hil)
        have hll : (l.take i).length ≤ 32 := by rw [List.length_take]; omega
        have hpt : (linesB (l.take i)).length ≤ 32 * 103884521868 := Nat.le_trans HLN.o (Nat.mul_le_mul_right _ hll)
        have hl1 := lineM_len l[i].p.l l[i].k hs1 hs2
        have hba := below_alloc wr (.cells #[l[i].p.v, .string (st l[i].k)] 33)
        have HX := hq (Whole.made wr 33 #[l[i].p.v, .string (st l[i].k)])
        have HBA := hq (below_trans HBW.o hba)
        have HBA1 := hq (below_trans hb.o hba)
        have HBD2 := hq (hbd.o.below hba)
        have HLC := hq (line_any l[i].p l[i].k _ (tabs_grow HTM.o.1 HBA.o) (mx_grow HTM.o.2 HBA.o) (hok.grow hba) hs1 hs2)
        generalize l[i] = r at *
        obtain ⟨⟨po, pc, pl⟩, k⟩ := r
        simp only at *
        unfold SRow.v at *
        simp only at *
        have x0 := HX.o.at_ 0
        have x1 := HX.o.at_ 1
        generalize linesB (l.take i) = pt at *
        generalize lineM pl k = LM at *
        clear HLN HP HD2 hbd hok hba hb hs1 hs2
        go_upto_region 7 with fail
        generalize wr.alloc (.cells #[.slice po pl.length pc, .string (st k)] 33) = W2 at *
        generalize wr.heap.size = bX at *
        clear c0 c1
        go_wp2_with fail
        refine HLC.o.mono ?_
        rintro e W4 ⟨rfl, hb4⟩
        have HW4 := hq (HBD2.o.below hb4)
        have HB4 := hq (below_trans HBA1.o hb4)
        have HWS := hq (wstring W1.heap.size W1.heap.size pt LM W4 HW4.o (by omega) HB4.o.size)
        clear HLC HBD2 hb4 HW4 x0 x1 HX HBA HBA1 HBW
        go_wp2_with fail
        refine HWS.o.mono ?_
        rintro e W5 ⟨⟨_, rfl⟩, hw5, hb5, _⟩
        have HW5 := hq (HPT.o ▸ hw5)
        have HB5 := hq (HB4.o.trans hb5)
        clear hw5 hb5 HWS HB4
        go_wp2_with fail
        go_roundg (gk - 1)
        case measure => omega
        case rel => exact ⟨i + 1, by omega, by omega, int_eq (by omega), HW5, HB5⟩
      · have hiz : ¬ (i : Int) < (l.length : Int) := by omega
        have hw : Bld W1.heap.size W1.heap.size (linesB l) wr := by
          have := hbd.o
          rwa [List.take_of_length_le (by omega)] at this
        have HS := hq (Tryz.Builder_String_any_k W1.heap.size W1.heap.size _ wr hw hb.o.size)
        clear hw hbd
        go_wp2_with fail
        refine HS.o.mono ?_
        rintro e W6 ⟨rfl, _, h6, _⟩
        have HV := hq (HP.o (linesB l, 0) W6 HD2.o (HB1.o.trans ((hb.o.trans h6).mono HB1.o.size)))
        clear HP HD2 h6 HS hb HBW
        go_wp2_with fail
        first | exact HV.o | (go_ret; exact HV.o)
end Go.Proofs.YtmadgdafgkleiaaGreatDoor

