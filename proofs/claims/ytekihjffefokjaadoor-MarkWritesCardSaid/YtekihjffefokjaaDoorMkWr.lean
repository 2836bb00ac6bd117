/-
  THE WALK OF THE LAW MarkWrites.
-/
import Derived.Test.YtekihjffefokjaaDoorRMkP
import Derived.Test.YtekihjffefokjaaDoorMkJ
namespace Go.Proofs.YtekihjffefokjaaDoor
open Go.RowKit

set_option maxHeartbeats 4000000 in
set_option maxRecDepth 1000000 in
theorem markWrites_any (o : Option Addr) (cap : Nat) (l : List MPart) (po : Option Addr) (pc : Nat) (ps : List Int) (w : World) (h : MkT w) (hl : l.length ≤ cap) (hc : cap ≤ maxLen) (hin : PartsIn w o l) (hs : ∀ x ∈ l, Lens 1152921504606846976 x) (hno : o = none → cap = 0) (hpl : ps.length ≤ pc) (hpc : pc ≤ maxLen) (hpi : IntsIn w po ps) :
    Calls Tryd.prog 8 #[.slice o l.length cap, .slice po ps.length pc] w fun e w' => e = .returned (.bool true) ∧ Below w.heap.size w w' := by
  have HT := hq h
  have HIN := hq hin
  have HPI := hq hpi
  have HS := hq hs
  have HNO := hq hno
  clear h hin hpi hs hno
  obtain ⟨i0, hi, hz0, hz1, hz2⟩ := info_parts infoPart
  go_enter Tryd.func8, Tryd.ntmps8
  go_wp2_with fail
  refine (msmall_any w HT.o).mono ?_
  rintro e w1 ⟨rfl, hb1⟩
  have HB1 := hq hb1
  have HIN1 := hq (HIN.o.grow hb1)
  clear hb1
  go_wp2_with fail
  refine (mfew_any o cap l w1 hl hc HIN1.o HS.o).mono ?_
  rintro e w2 ⟨rfl, hb2⟩
  have HB2 := hq (below_trans HB1.o hb2)
  clear hb2 HB1 HIN1 HS
  cases hF : fewM l with
  | false =>
    go_wp2_with fail
    go_ret
    exact ⟨rfl, HB2.o⟩
  | true =>
    obtain ⟨h60, hln⟩ := few_in hF
    have HLN := hq hln
    clear hF hln
    have HC2 := hq (parts_cells (HIN.o.grow (below_trans HB2.o (below_alloc w2 (.cells #[] 53)))))
    have hc9 := hc
    unfold maxLen at hc9
    have hbn := row_none w2 53 5
    have HBN := hq hbn
    clear hbn
    go_wp2_with (at_builtin; refine wpList_append_src rfl _ _ 41 rfl w2.heap.size 53 i0 (.agg #[.bool false, .string ⟨#[]⟩, .string ⟨#[]⟩, .string ⟨#[]⟩, .string ⟨#[]⟩]) 5 72 Tryd.underlying41 hi hz0 hz1 hz2 rfl (by decide) _ 0 [] rfl HBN.o o l.length cap (partCells l) rfl HNO.o hl (partCells_len l) HC2.o (partCells_one l) (by unfold maxLen; omega) (by omega) (by rw [World.size_alloc]; omega) ?_)
    intro v' w3 hown3 hgrow3
    have hb3 := (below_alloc w2 (.cells #[] 53)).grown hgrow3 (by rw [World.size_alloc]; omega) (fun j ej => by cases ej; exact Nat.le_refl _)
    have hr3 : PRow w3 w2.heap.size v' l := by unfold PRow; simpa only [Nat.zero_add, List.nil_append] using hown3
    obtain ⟨o', cap', rfl, hl', hc', hin'⟩ := prow_in hr3
    have HB3 := hq (below_trans HB2.o hb3)
    have HIN3 := hq hin'
    have hz3 := hb3.size
    clear hown3 hgrow3 hr3 hin' hb3 HB2 HC2 HBN
    have HEC := hq (encode_few 1024 o' cap' l w3 (HT.o.grow HB3.o) hl' hc' HIN3.o (by decide) HLN.o)
    have HRC := hq (fun W (hW : Below w.heap.size w W) => renc_few 1024 o cap l W hl hc (HIN.o.grow hW) (by decide) HLN.o)
    unfold EncPost at HEC HRC
    generalize (if rightB l = true then encM l else []) = E1 at *
    generalize (if rightB l = true then (0 : Int) else 1) = E2 at *
    go_wp2_with fail
    refine HEC.o.mono ?_
    rintro e w4 ⟨rfl, hb4⟩
    have HB4 := hq (below_trans HB3.o hb4)
    have HIN4 := hq (HIN3.o.grow hb4)
    clear hb4 HIN3 HB3 HEC
    go_wp2_with fail
    refine (HRC.o _ HB4.o).mono ?_
    rintro e w5 ⟨rfl, hb5⟩
    have HB5 := hq (below_trans HB4.o hb5)
    have HIN5 := hq (HIN4.o.grow hb5)
    clear hb5 HIN4 HB4 HRC
    have hpi5 : IntsIn w5 po ps := fun i hi => by
      obtain ⟨b, f, h1, h2⟩ := HPI.o i hi
      exact ⟨b, f, h1, (HB5.o.cell (cell_lt h2)).trans h2⟩
    have HPI5 := hq hpi5
    clear hpi5
    have HPC := hq (pick_any o' cap' l po pc ps w5 hl' hc' HIN5.o (fun x hx => lens_mono (by decide) (HLN.o x hx)) hpl hpc HPI5.o)
    have HRP : Hq (∀ W, Below w.heap.size w W → Calls Tryd.prog 27 #[.slice o l.length cap, .slice po ps.length pc] W (PickPost (pickB l ps) W)) := hq (fun W hW => rpick_any o cap l po pc ps W hl hc (HIN.o.grow hW) (fun x hx => lens_mono (by decide) (HLN.o x hx)) hpl hpc (fun i hi => by
      obtain ⟨b, f, h1, h2⟩ := HPI.o i hi
      exact ⟨b, f, h1, (hW.cell (cell_lt h2)).trans h2⟩))
    unfold PickPost at HPC HRP
    generalize (pickB l ps).getD [] = P1 at *
    generalize (if (pickB l ps).isSome = true then (0 : Int) else 1) = P2 at *
    go_wp2_with fail
    refine HPC.o.mono ?_
    rintro e w6 ⟨rfl, hb6⟩
    have HB6 := hq (below_trans HB5.o hb6)
    have HIN6 := hq (HIN5.o.grow hb6)
    clear hb6 HIN5 HB5 HPI5 HPC
    go_wp2_with fail
    refine (HRP.o _ HB6.o).mono ?_
    rintro e w7 ⟨rfl, hb7⟩
    have HB7 := hq (below_trans HB6.o hb7)
    have HIN7 := hq (HIN6.o.grow hb7)
    clear hb7 HIN6 HB6 HPI HRP
    go_wp2_with fail
    refine (mright_any o' cap' l w7 hl' hc' HIN7.o).mono ?_
    rintro e w8 ⟨rfl, hb8⟩
    have HB8 := hq (below_trans HB7.o hb8)
    have HIN8 := hq (HIN7.o.grow hb8)
    clear hb8 HIN7 HB7
    go_wp2_with fail
    refine (rmright_any o cap l w8 hl hc (HIN.o.grow HB8.o)).mono ?_
    rintro e w9 ⟨rfl, hb9⟩
    have HB9 := hq (below_trans HB8.o hb9)
    have HIN9 := hq (HIN8.o.grow hb9)
    clear hb9 HIN8 HB8
    have er : (rightB l == rightB l) = true := beq_self_eq_true _
    go_wp2_with fail
    refine (width_any o' cap' l w9 (HT.o.grow HB9.o).hm hl' hc' HIN9.o (fun x hx => lens_mono (by decide) (HLN.o x hx))).mono ?_
    rintro e w10 ⟨rfl, hb10⟩
    have HB10 := hq (below_trans HB9.o hb10)
    have HIN10 := hq (HIN9.o.grow hb10)
    clear hb10 HIN9 HB9
    go_wp2_with fail
    refine (rwidth_any o cap l w10 hl hc (HIN.o.grow HB10.o) (fun x hx => lens_mono (by decide) (HLN.o x hx))).mono ?_
    rintro e w11 ⟨rfl, hb11⟩
    have HB11 := hq (below_trans HB10.o hb11)
    have HIN11 := hq (HIN10.o.grow hb11)
    clear hb11 HIN10 HB10
    go_wp2_with fail
    refine (same_yes o' o cap' cap l w11 hl' hc' HIN11.o hl hc (HIN.o.grow HB11.o)).mono ?_
    rintro e w12 ⟨rfl, hb12⟩
    have HB12 := hq (below_trans HB11.o hb12)
    clear hb12 HIN11 HB11
    go_wp2_with fail
    go_ret
    exact ⟨rfl, HB12.o⟩
end Go.Proofs.YtekihjffefokjaaDoor
