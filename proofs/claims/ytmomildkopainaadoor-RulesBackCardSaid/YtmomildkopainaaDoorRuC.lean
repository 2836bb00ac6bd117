/-
  RULES in memory; WALKS: pointer.Right, rules.Right, rules.Find.
-/
import Derived.Test.YtmomildkopainaaDoorRuB
import Derived.Test.YtmomildkopainaaDoorRunesValid
namespace Go.Proofs.YtmomildkopainaaDoor
open Go.RowKit

/-- is a row of texts a path? -/
def pgoodB (p : List Bs) : Bool := decide (p.length ≤ 64) && p.all fun x => (valid (st x)).2
/-- a rule: its pattern as it lies, its key -/
structure RU where
  p : SRow
  k : Bs
def RU.m (r : RU) : List Bs × Bs := (r.p.l, r.k)
def rgoodB (l : List RU) : Bool := decide (l.length ≤ 32) && l.all fun r => (valid (st r.k)).2 && pgoodB r.p.l
/-- rules behind an address -/
def RulesIn (w : World) (o : Option Addr) (l : List RU) : Prop := ∀ i (h : i < l.length), ∃ b f, o = some ⟨b, f, none⟩ ∧ w.cell? ⟨b, f + i * 2, none⟩ = some l[i].p.v ∧ w.cell? ⟨b, f + i * 2 + 1, none⟩ = some (.string (st l[i].k)) ∧ l[i].p.ok w
theorem RulesIn.grow {w w' : World} {o : Option Addr} {l : List RU} (h : RulesIn w o l) (hb : Below w.heap.size w w') : RulesIn w' o l := fun i hi => by
  obtain ⟨b, f, h1, h2, h3, h4⟩ := h i hi
  exact ⟨b, f, h1, (hb.cell (p := ⟨b, f + i * 2, none⟩) (cell_blk h2)).trans h2, (hb.cell (p := ⟨b, f + i * 2 + 1, none⟩) (cell_blk h3)).trans h3, h4.grow hb⟩
/-- a text's room -/
def Room (l : List Bs) : Prop := ∀ x ∈ l, x.length ≤ maxLen
structure RulesOk (w : World) (o : Option Addr) (cap : Nat) (l : List RU) : Prop where
  le : l.length ≤ cap
  cp : cap ≤ maxLen
  rd : RulesIn w o l
  km : ∀ r ∈ l, r.k.length ≤ maxLen ∧ Room r.p.l
theorem RulesOk.grow {w w' : World} {o : Option Addr} {cap : Nat} {l : List RU} (h : RulesOk w o cap l) (hb : Below w.heap.size w w') : RulesOk w' o cap l := ⟨h.le, h.cp, h.rd.grow hb, h.km⟩
theorem all_take {α : Type} {l : List α} {i : Nat} (f : α → Bool) (hi : i < l.length) : (l.take (i + 1)).all f = ((l.take i).all f && f l[i]) := by
  rw [List.take_succ_eq_append_getElem hi, List.all_append]
  simp
theorem all_bad {α : Type} {l : List α} {i : Nat} {f : α → Bool} (hi : i < l.length) (h : f l[i] = false) : l.all f = false := by
  rw [List.all_eq_false]
  exact ⟨l[i], List.getElem_mem hi, by simp [h]⟩
def BoolPost (v : Bool) (W : World) (e : Ending) (W' : World) : Prop := e = .returned (.bool v) ∧ Below W.heap.size W W'
set_option maxHeartbeats 2000000 in
set_option maxRecDepth 1000000 in
theorem pright_any (p : SRow) (W : World) (hT : tabs W) (hp : p.ok W) (hm : Room p.l) : Calls Tryd.prog 33 #[p.v] W (BoolPost (pgoodB p.l) W) := by
  obtain ⟨o, cap, l⟩ := p
  have HPO := hq hp
  have hpc := hp.le
  have hpm := hp.cp
  unfold maxLen at hpm
  have HVL := hq (fun x (hx : x ∈ l) WW (hb : Below W.heap.size W WW) => valid_any (st x) WW (tabs_grow hT hb) (by rw [st_size]; exact hm x hx))
  have HP : Hq (∀ b W', pgoodB l = b → Below W.heap.size W W' → BoolPost (pgoodB l) W (.returned (.bool b)) W') := hq (fun b W' h1 h2 => ⟨by rw [h1], h2⟩)
  have HM : Hq (pgoodB l = (decide (l.length ≤ 64) && l.all fun x => (valid (st x)).2)) := hq rfl
  simp only at hpc hpm ⊢
  unfold SRow.v
  generalize BoolPost (pgoodB l) W = PP at *
  clear hp hm hT
  simp only
  by_cases h1 : 64 < l.length
  · have hz : (64 : Int) < (l.length : Int) := by omega
    have HV := hq (HP.o false W (by rw [HM.o, decide_eq_false (by omega)]; rfl) (Below.refl _ _))
    clear HP HM HVL h1
    go_enter Tryd.func33, Tryd.ntmps33
    go_wp2_with fail
    first | exact HV.o | (go_ret; exact HV.o)
  · have hz : ¬ (64 : Int) < (l.length : Int) := by omega
    have HM2 : Hq (pgoodB l = l.all fun x => (valid (st x)).2) := hq (by rw [HM.o, decide_eq_true (by omega)]; rfl)
    clear HM h1
    go_enter Tryd.func33, Tryd.ntmps33
    go_wp2_with fail
    go_loopg [4, 5, 6, 12] l.length (fun gk _ _ _ u wr => ∃ i : Nat, i + gk ≤ l.length ∧ l.length ≤ i + gk ∧ u = .int .i64 (i : Int) ∧ Hq ((l.take i).all (fun x => (valid (st x)).2) = true) ∧ Hq (Below W.heap.size W wr))
    case atStart => exact ⟨0, by omega, by omega, rfl, hq (by simp), hq (Below.refl _ _)⟩
    case round =>
      obtain ⟨i, hi1, hi2, rfl, hall, hb⟩ := hrel
      by_cases hil : i < l.length
      · have hiz : (i : Int) < (l.length : Int) := by omega
        obtain ⟨b, f, rfl, c0⟩ := strs_at HPO.o.rd hb.o hil
        simp only at c0
        have HC := hq (HVL.o l[i] (List.getElem_mem hil) wr hb.o)
        have HT := hq (all_take (fun x => (valid (st x)).2) hil)
        have HBD := hq (@all_bad _ l i (fun x => (valid (st x)).2) hil)
        generalize l[i] = x at *
        generalize hV : valid (st x) = V at *
        obtain ⟨vn, vb⟩ := V
        simp only at HC HT HBD
        clear HVL hV HPO
        cases vb with
        | true =>
          clear HP HBD
          go_wp2_with fail
          refine HC.o.mono ?_
          rintro e W2 ⟨rfl, hb2⟩
          have HB2 := hq (below_trans hb.o hb2)
          clear HC hb hb2
          go_wp2_with fail
          go_roundg (gk - 1)
          case measure => omega
          case rel => exact ⟨i + 1, by omega, by omega, int_eq (by omega), hq (by rw [HT.o, hall.o]; rfl), HB2⟩
        | false =>
          have HV := hq (fun W2 hb2 => HP.o false W2 (by rw [HM2.o]; exact HBD.o rfl) (below_trans hb.o hb2))
          clear HP HBD HT hb
          go_wp2_with fail
          refine HC.o.mono ?_
          rintro e W2 ⟨rfl, hb2⟩
          have HV2 := hq (HV.o _ hb2)
          clear HC HV hb2
          go_wp2_with fail
          first | exact HV2.o | (go_ret; exact HV2.o)
      · have hiz : ¬ (i : Int) < (l.length : Int) := by omega
        have HV := hq (HP.o true wr (by rw [HM2.o]; have := hall.o; rwa [List.take_of_length_le (by omega)] at this) hb.o)
        clear HP HVL HPO hall hb
        go_wp2_with fail
        first | exact HV.o | (go_ret; exact HV.o)
set_option maxHeartbeats 2000000 in
set_option maxRecDepth 1000000 in
theorem rright_any (o : Option Addr) (cap : Nat) (l : List RU) (W : World) (hT : tabs W) (h : RulesOk W o cap l) : Calls Tryd.prog 17 #[.slice o l.length cap] W (BoolPost (rgoodB l) W) := by
  have HRU := hq h
  have hpc := h.le
  have hpm := h.cp
  unfold maxLen at hpm
  have HVL := hq (fun (r : RU) (hr : r ∈ l) WW (hb : Below W.heap.size W WW) => valid_any (st r.k) WW (tabs_grow hT hb) (by rw [st_size]; exact (h.km r hr).1))
  have HPR := hq (fun (r : RU) (hr : r ∈ l) WW (hb : Below W.heap.size W WW) (hp : r.p.ok WW) => pright_any r.p WW (tabs_grow hT hb) hp (h.km r hr).2)
  have HP : Hq (∀ b W', rgoodB l = b → Below W.heap.size W W' → BoolPost (rgoodB l) W (.returned (.bool b)) W') := hq (fun b W' h1 h2 => ⟨by rw [h1], h2⟩)
  have HM : Hq (rgoodB l = (decide (l.length ≤ 32) && l.all fun r => (valid (st r.k)).2 && pgoodB r.p.l)) := hq rfl
  generalize BoolPost (rgoodB l) W = PP at *
  clear h hT
  by_cases h1 : 32 < l.length
  · have hz : (32 : Int) < (l.length : Int) := by omega
    have HV := hq (HP.o false W (by rw [HM.o, decide_eq_false (by omega)]; rfl) (Below.refl _ _))
    clear HP HM HVL h1 HRU HPR
    go_enter Tryd.func17, Tryd.ntmps17
    go_wp2_with fail
    first | exact HV.o | (go_ret; exact HV.o)
  · have hz : ¬ (32 : Int) < (l.length : Int) := by omega
    have HM2 : Hq (rgoodB l = l.all fun r => (valid (st r.k)).2 && pgoodB r.p.l) := hq (by rw [HM.o, decide_eq_true (by omega)]; rfl)
    clear HM h1
    go_enter Tryd.func17, Tryd.ntmps17
    go_wp2_with fail
    go_loopg [4, 5, 6, 12] l.length (fun gk _ _ _ u wr => ∃ i : Nat, i + gk ≤ l.length ∧ l.length ≤ i + gk ∧ u = .int .i64 (i : Int) ∧ Hq ((l.take i).all (fun r => (valid (st r.k)).2 && pgoodB r.p.l) = true) ∧ Hq (Below W.heap.size W wr))
    case atStart => exact ⟨0, by omega, by omega, rfl, hq (by simp), hq (Below.refl _ _)⟩
    case round =>
      obtain ⟨i, hi1, hi2, rfl, hall, hb⟩ := hrel
      by_cases hil : i < l.length
      · have hiz : (i : Int) < (l.length : Int) := by omega
        obtain ⟨b, f, rfl, c0, c1, hok⟩ := HRU.o.rd.grow hb.o i hil
        have HC := hq (HVL.o l[i] (List.getElem_mem hil))
        have HPC := hq (HPR.o l[i] (List.getElem_mem hil))
        have HT := hq (all_take (fun r : RU => (valid (st r.k)).2 && pgoodB r.p.l) hil)
        have HBD := hq (@all_bad _ l i (fun r : RU => (valid (st r.k)).2 && pgoodB r.p.l) hil)
        have HOK := hq hok
        generalize l[i] = r at *
        obtain ⟨⟨po, pc, pl⟩, k⟩ := r
        simp only at HC HPC HT HBD c0 c1 HOK
        unfold SRow.v at c0 HPC
        simp only at c0 HPC
        have hb2 := below_alloc wr (.cells #[.slice po pl.length pc, .string (st k)] 73)
        have HX := hq (Whole.made wr 73 #[.slice po pl.length pc, .string (st k)])
        have HB2 := hq (below_trans hb.o hb2)
        have HOK2 := hq (HOK.o.grow hb2)
        have HCC := hq (HC.o _ HB2.o)
        have x0 := HX.o.at_ 0
        have x1 := HX.o.at_ 1
        clear HVL HPR HRU hok HOK HC hb2 hb
        generalize hV : valid (st k) = V at *
        obtain ⟨vn, vb⟩ := V
        simp only at HCC HT HBD
        clear hV
        go_upto_region 6 with fail
        generalize wr.alloc (.cells #[.slice po pl.length pc, .string (st k)] 73) = w1 at *
        generalize wr.heap.size = gB at *
        clear c0 c1
        go_wp2_with fail
        refine HCC.o.mono ?_
        rintro e W2 ⟨rfl, hb3⟩
        have x2 := (HX.o.grow hb3).at_ 0
        have HB3 := hq (below_trans HB2.o hb3)
        have HPC2 := hq (HPC.o _ HB3.o (HOK2.o.grow hb3))
        clear HCC HPC hb3 HB2 HOK2 HX x0 x1
        cases vb with
        | false =>
          have HV := hq (HP.o false W2 (by rw [HM2.o]; exact HBD.o rfl) HB3.o)
          clear HP HBD HT HB3 HPC2
          go_wp2_with fail
          first | exact HV.o | (go_ret; exact HV.o)
        | true =>
          go_wp2_with fail
          refine HPC2.o.mono ?_
          rintro e W4 ⟨rfl, hb4⟩
          have HB4 := hq (below_trans HB3.o hb4)
          clear HPC2 hb4 HB3
          generalize pgoodB pl = pb at *
          cases pb with
          | true =>
            clear HP HBD
            go_wp2_with fail
            go_roundg (gk - 1)
            case measure => omega
            case rel => exact ⟨i + 1, by omega, by omega, int_eq (by omega), hq (by rw [HT.o, hall.o]; rfl), HB4⟩
          | false =>
            have HV := hq (HP.o false W4 (by rw [HM2.o]; exact HBD.o rfl) HB4.o)
            clear HP HBD HT HB4
            go_wp2_with fail
            first | exact HV.o | (go_ret; exact HV.o)
      · have hiz : ¬ (i : Int) < (l.length : Int) := by omega
        have HV := hq (HP.o true wr (by rw [HM2.o]; have := hall.o; rwa [List.take_of_length_le (by omega)] at this) hb.o)
        clear HP HVL HPR HRU hall hb
        go_wp2_with fail
        first | exact HV.o | (go_ret; exact HV.o)
end Go.Proofs.YtmomildkopainaaDoor
