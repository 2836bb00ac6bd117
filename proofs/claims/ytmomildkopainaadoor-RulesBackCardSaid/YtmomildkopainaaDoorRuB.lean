/-
  WALKS: rules.Match, whole.
-/
import Derived.Test.YtmomildkopainaaDoorRuA
namespace Go.Proofs.YtmomildkopainaaDoor
open Go.RowKit

def MatchPost (p l : List Bs) (W : World) (e : Ending) (W' : World) : Prop := e = .returned (.bool (matchM p l)) ∧ Below W.heap.size W W'
theorem fits_next {path p : List Bs} {i : Nat} (hi : i < p.length) : fitsM path (p.take (i + 1)) = rowM path p[i] (fitsM path (p.take i)) := by
  unfold fitsM
  rw [List.take_succ_eq_append_getElem hi, List.foldl_append]
  rfl
theorem strs_at {w w' : World} {o : Option Addr} {l : List Bs} (h : StrsIn w o l) (hb : Below w.heap.size w w') {i : Nat} (hi : i < l.length) : ∃ b f, o = some ⟨b, f, none⟩ ∧ w'.cell? ⟨b, f + i, none⟩ = some (.string (st l[i])) := h.grow hb i hi
set_option maxHeartbeats 2000000 in
set_option maxRecDepth 1000000 in
theorem match_any (p r : SRow) (W : World) (hp : p.ok W) (hr : r.ok W) : Calls Tryd.prog 19 #[p.v, r.v] W (MatchPost p.l r.l W) := by
  obtain ⟨po, pcap, pl⟩ := p
  have HPO := hq hp
  have HRO := hq hr
  have hpc := hp.le
  have hpm := hp.cp
  have hrc := hr.le
  have hrm := hr.cp
  unfold maxLen at hpm hrm
  have HP : Hq (∀ b W', matchM pl r.l = b → Below W.heap.size W W' → MatchPost pl r.l W (.returned (.bool b)) W') := hq (fun b W' h1 h2 => ⟨by rw [h1], h2⟩)
  simp only at hpc hpm ⊢
  generalize MatchPost pl r.l W = PP at *
  have HM : Hq (matchM pl r.l = if 200 < pl.length ∨ 200 < r.l.length then false else (fitsM r.l pl).getD r.l.length false) := hq rfl
  have HFU := hq (fun (x : Bs) (WW : World) (hb : Below W.heap.size W WW) => further_any WW x r (hr.grow hb))
  clear hp hr
  by_cases h1 : 200 < pl.length
  · have hz : (200 : Int) < (pl.length : Int) := by omega
    have HV := hq (HP.o false W (by rw [HM.o, if_pos (.inl h1)]) (Below.refl _ _))
    unfold SRow.v
    clear HP HM HFU h1
    go_enter Tryd.func19, Tryd.ntmps19
    go_wp2_with fail
    first | exact HV.o | (go_ret; exact HV.o)
  · have hz : ¬ (200 : Int) < (pl.length : Int) := by omega
    by_cases h2 : 200 < r.l.length
    · have hz2 : (200 : Int) < (r.l.length : Int) := by omega
      have HV := hq (HP.o false W (by rw [HM.o, if_pos (.inr h2)]) (Below.refl _ _))
      unfold SRow.v
      clear HP HM HFU h1 h2
      go_enter Tryd.func19, Tryd.ntmps19
      go_wp2_with fail
      first | exact HV.o | (go_ret; exact HV.o)
    · have hz2 : ¬ (200 : Int) < (r.l.length : Int) := by omega
      have HM2 := hq (HM.o.trans (if_neg (by omega)))
      have hz3 : (0 : Int) < (r.l.length : Int) + 1 := by omega
      have hm : ∀ WW : World, (Instr.makeSlice 75 (.int .i64 ((r.l.length : Int) + 1)) (.int .i64 ((r.l.length : Int) + 1))).run Tryd.prog WW = .ok (.slice (some ⟨WW.heap.size, 0, none⟩) (r.l.length + 1) (r.l.length + 1)) (WW.alloc (.cells (bC (List.replicate (r.l.length + 1) false)) 4)) := fun WW => by
        have := mk_bools (r.l.length + 1) (by omega) WW
        rw [show ((r.l.length + 1 : Nat) : Int) = (r.l.length : Int) + 1 by omega] at this
        exact this
      have hw0 := Whole.made W 4 (bC (List.replicate (r.l.length + 1) false))
      have c0 := hw0.at_ 0
      rw [bC_at (by simp)] at c0
      have c1 := hw0.free 0
      have HX0 : Hq (Whole (W.alloc (.cells ((bC (List.replicate (r.l.length + 1) false)).setIfInBounds 0 (.bool true)) 4)) W.heap.size 4 (bC (fitsM r.l (pl.take 0)))) := hq (by
        have := Whole.made W 4 ((bC (List.replicate (r.l.length + 1) false)).setIfInBounds 0 (.bool true))
        rw [bC_set] at this ⊢
        exact this)
      have HB0 : Hq (Below W.heap.size W (W.alloc (.cells ((bC (List.replicate (r.l.length + 1) false)).setIfInBounds 0 (.bool true)) 4))) := hq (below_alloc W _)
      unfold SRow.v
      unfold SRow.v at HFU
      clear hw0 h1
      go_enter Tryd.func19, Tryd.ntmps19
      go_wp2_with fail
      clear c0 c1
      go_loopg [5, 7, 24] pl.length (fun gk u5 _ u wr => ∃ (i g : Nat), i + gk ≤ pl.length ∧ pl.length ≤ i + gk ∧ u = .int .i64 (i : Int) ∧ u5 = .slice (some ⟨g, 0, none⟩) (r.l.length + 1) (r.l.length + 1) ∧ Hq (Whole wr g 4 (bC (fitsM r.l (pl.take i)))) ∧ Hq (Below W.heap.size W wr))
      case atStart => exact ⟨0, W.heap.size, by omega, by omega, rfl, rfl, HX0, HB0⟩
      case round =>
        obtain ⟨i, g, hi1, hi2, rfl, rfl, hw, hb⟩ := hrel
        clear HX0 HB0
        by_cases hil : i < pl.length
        · have hiz : (i : Int) < (pl.length : Int) := by omega
          obtain ⟨b, fo, rfl, c0⟩ := strs_at HPO.o.rd hb.o hil
          simp only at c0
          have HC := hq (HFU.o pl[i] wr hb.o)
          have HN := hq (@fits_next r.l pl i hil)
          generalize pl[i] = x at *
          clear HFU HPO HRO HM HM2 HP
          go_wp2_with fail
          refine HC.o.mono ?_
          rintro e W2 ⟨F, caps, rfl, hb2, hcf, hC⟩
          have HC2 := hq (hC W2 (Below.refl _ _) g _ (by rw [fitsM_len]) (by omega) (hw.o.grow hb2))
          have HB2 := hq (below_trans hb.o hb2)
          clear hC HC hw hb hb2
          go_wp2_with fail
          refine HC2.o.mono ?_
          rintro e W3 ⟨⟨g', rfl, hw3⟩, hb3⟩
          have HW3 := hq (HN.o ▸ hw3)
          have HB3 := hq (below_trans HB2.o hb3)
          clear hw3 hb3 HC2 HB2
          go_wp2_with fail
          go_roundg (gk - 1)
          case measure => omega
          case rel => exact ⟨i + 1, g', by omega, by omega, int_eq (by omega), rfl, HW3, HB3⟩
        · have hiz : ¬ (i : Int) < (pl.length : Int) := by omega
          have hi : i = pl.length := by omega
          have hw2 := hw.o
          rw [hi, List.take_length] at hw2
          have c0 := hw2.at_ r.l.length
          rw [bC_at (by rw [fitsM_len]; omega)] at c0
          have hln : (r.l.length : Int) < (r.l.length : Int) + 1 := by omega
          have HV := hq (HP.o _ wr.drew (by rw [HM2.o, List.getD_eq_getElem?_getD, List.getElem?_eq_getElem (by rw [fitsM_len]; omega)]) hb.o.drew)
          have HV2 := hq (HP.o _ wr (by rw [HM2.o, List.getD_eq_getElem?_getD, List.getElem?_eq_getElem (by rw [fitsM_len]; omega)]) hb.o)
          clear HFU HPO HRO HM HM2 HP hw hb hw2 hi
          go_wp2_with fail
          first | exact HV.o | exact HV2.o | (go_ret; first | exact HV.o | exact HV2.o)
end Go.Proofs.YtmomildkopainaaDoor
