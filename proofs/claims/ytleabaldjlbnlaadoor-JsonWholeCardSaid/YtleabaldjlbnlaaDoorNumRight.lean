/-
  WALKS: number.Right.
-/
import Derived.Test.YtleabaldjlbnlaaDoorNumOf
import Derived.Deep.RegionWith
namespace Go.Proofs.YtleabaldjlbnlaaDoor
open Go.RowKit

def Dec.bad (D : Bs) : Prop := D.length < 1 ∨ 1000 < D.length ∨ D.all isDig = false
instance instDecNumBad (D : Bs) : Decidable (Dec.bad D) := by unfold Dec.bad; infer_instance
def Dec.nought0 (D : Bs) : Prop := D.head? = some 48 ∨ D.getLast? = some 48
instance instDecNumNought (D : Bs) : Decidable (Dec.nought0 D) := by unfold Dec.nought0; infer_instance
def Dec.right (d : Dec) : Bool :=
  if d = .zero then true else if Dec.bad d.digits then false else if Dec.nought0 d.digits then false else decide (-1000000 ≤ d.exp ∧ d.exp ≤ 1000000)

theorem nd_len (l : Bs) : nd l = l.length ↔ l.all isDig = true := by
  constructor
  · intro h
    have h2 : l.takeWhile isDig = l := (List.takeWhile_prefix isDig).eq_of_length h
    have h3 : ∀ m : Bs, m.takeWhile isDig = m → m.all isDig = true := by
      intro m
      induction m with
      | nil => intro _; rfl
      | cons c m ih =>
        intro hm
        rw [List.takeWhile_cons] at hm
        split at hm
        · rename_i hc
          simp only [List.cons.injEq, true_and] at hm
          rw [List.all_cons, hc, ih hm]; rfl
        · cases hm
    exact h3 l h2
  · intro h
    unfold nd
    have h2 : l.takeWhile isDig = l := by
      induction l with
      | nil => rfl
      | cons c l ih =>
        simp only [List.all_cons, Bool.and_eq_true] at h
        rw [List.takeWhile_cons, if_pos h.1, ih h.2]
    rw [h2]

set_option maxRecDepth 100000 in
theorem eq_num0 (neg : Bool) (D : Bs) (E : Int) : ∀ W : World, (Op.equalIn 10000 81 (.agg #[.bool neg, .string (st D), .int .i64 E]) (.agg #[.bool false, .string ⟨#[]⟩, .int .i64 0])).run Tryd.prog W = .ok (decide (neg = false ∧ D = [] ∧ E = 0)) W := by
  intro W
  have h23 := Tryd.underlying81
  have hst : Tryd.prog.stoodInHeld 81 = false := by kernel_rfl
  cases neg <;> by_cases hD : D = [] <;> by_cases hE : E = 0
  all_goals (try subst hD)
  all_goals (try subst hE)
  all_goals go_simp
theorem eq_num (neg : Bool) (D : Bs) (E : Int) : ∀ W : World, (Op.equalIn 10000 81 (.agg #[.bool neg, .string (st D), .int .i64 E]) (.agg #[.bool false, .string ⟨#[]⟩, .int .i64 0])).run Tryd.prog W = .ok (decide (Dec.mk neg D E = .zero)) W := by
  intro W
  rw [eq_num0]
  congr 1
  refine decide_eq_decide.2 ⟨fun ⟨h1, h2, h3⟩ => by rw [h1, h2, h3]; rfl, fun h => ⟨congrArg Dec.neg h, congrArg Dec.digits h, congrArg Dec.exp h⟩⟩

set_option maxHeartbeats 1000000 in
set_option maxRecDepth 1000000 in
theorem right_any (neg : Bool) (D : Bs) (E : Int) (w : World) (hD : D.length ≤ 1099511627776) (hE : -9223372036854775808 ≤ E ∧ E ≤ 9223372036854775807) :
    Calls Tryd.prog 69 #[.agg #[.bool neg, .string (st D), .int .i64 E]] w fun e w' => e = .returned (.bool (Dec.right ⟨neg, D, E⟩)) ∧ Below w.heap.size w w' := by
  obtain ⟨hE1, hE2⟩ := hE
  generalize hR : Dec.right ⟨neg, D, E⟩ = R
  have HR := hq hR
  clear hR
  have HZ : Hq ((st D).size ≤ maxLen) := hq (by rw [st_size]; unfold maxLen; omega)
  go_enter Tryd.func69, Tryd.ntmps69
  go_upto_region 1 with fail
  have hW := Whole.made w 81 #[.bool neg, .string (st D), .int .i64 E]
  have hb := below_alloc w (.cells #[.bool neg, .string (st D), .int .i64 E] 81)
  generalize hWW : w.alloc (.cells #[.bool neg, .string (st D), .int .i64 E] 81) = W at *
  clear hWW
  obtain ⟨c0, c1, c2⟩ := three_cells hW
  have heq := eq_num neg D E
  generalize hB : decide (Dec.mk neg D E = .zero) = B at heq
  have HB := hq hB
  clear hB
  go_cut [5] (fun c wx => c = .bool B ∧ wx = W)
  case first =>
    go_wp2_with fail
    go_meet
    exact ⟨rfl, rfl⟩
  case rest =>
    obtain ⟨rfl, rfl⟩ := hcut
    clear heq
    rw [← HB.o]
    clear HB
    by_cases hz : Dec.mk neg D E = .zero
    · have HT : Hq (R = true) := hq (by rw [← HR.o]; unfold Dec.right; rw [if_pos hz])
      rw [decide_eq_true hz]
      clear HR hz
      go_wp2_with fail
      go_ret
      exact ⟨by rw [HT.o]; rfl, hb⟩
    · rw [decide_eq_false hz]
      have HR2 : Hq (R = if Dec.bad D then false else if Dec.nought0 D then false else decide (-1000000 ≤ E ∧ E ≤ 1000000)) := hq (by rw [← HR.o]; unfold Dec.right; rw [if_neg hz])
      clear HR hz
      go_upto_region 3 with fail
      go_cut [24] (fun c wx => c = .bool (decide (Dec.bad D)) ∧ Below w.heap.size w wx ∧ Whole wx w.heap.size 81 #[.bool neg, .string (st D), .int .i64 E])
      case first =>
        by_cases h1 : D.length < 1
        · have hh : Hq (decide (Dec.bad D) = true) := hq (decide_eq_true (.inl h1))
          have g1 : decide (((D.length : Nat) : Int) < 1) = true := decide_eq_true (by omega)
          go_region
          all_goals go_wp2_with fail
          all_goals go_meet
          all_goals exact ⟨congrArg Value.bool hh.o.symm, hb.drew, hW⟩
        · have g1 : decide (((D.length : Nat) : Int) < 1) = false := decide_eq_false (by omega)
          by_cases h2 : 1000 < D.length
          · have hh : Hq (decide (Dec.bad D) = true) := hq (decide_eq_true (.inr (.inl h2)))
            have g2 : decide ((1000 : Int) < ((D.length : Nat) : Int)) = true := decide_eq_true (by omega)
            go_region
            all_goals go_wp2_with fail
            all_goals go_meet
            all_goals exact ⟨congrArg Value.bool hh.o.symm, hb.drew, hW⟩
          · have g2 : decide ((1000 : Int) < ((D.length : Nat) : Int)) = false := decide_eq_false (by omega)
            have hdl := nd_le D
            have hh : Hq (decide (Dec.bad D) = (((nd D : Nat) : Int) != ((D.length : Nat) : Int))) := hq (by
              cases hx : D.all isDig with
              | true => rw [(nd_len D).2 hx, decide_eq_false (fun h => h.elim (fun h => by omega) (fun h => h.elim (fun h => by omega) (fun h => by rw [hx] at h; cases h)))]; simp
              | false =>
                have hne : nd D ≠ D.length := fun h => by have := (nd_len D).1 h; rw [hx] at this; cases this
                rw [decide_eq_true (.inr (.inr hx))]; symm; rw [bne_iff_ne]; omega)
            generalize hn0 : nd D = n0 at *
            have HN0 := hq hn0
            clear hn0
            have hb2 := hb.drew
            go_region_with (go_at_call 79; refine (digits_any _ _ HZ.o).mono ?_; rw [st_list, HN0.o]; rintro e w1 ⟨rfl, hb1⟩; have hW1 : Whole w1 w.heap.size 81 #[.bool neg, .string (st D), .int .i64 E] := Whole.grow (by assumption) hb1; obtain ⟨c0, c1, c2⟩ := three_cells hW1; have hbx : Below w.heap.size w w1 := below_trans (by assumption) hb1)
            all_goals go_wp2_with fail
            all_goals go_meet
            all_goals exact ⟨congrArg Value.bool hh.o.symm, hbx, hW1⟩
      case rest =>
        clear hW hb c0 c1 c2
        obtain ⟨rfl, hb, hW⟩ := hcut
        obtain ⟨c0, c1, c2⟩ := three_cells hW
        by_cases hbad : Dec.bad D
        · have HF : Hq (R = false) := hq (by rw [HR2.o, if_pos hbad])
          rw [decide_eq_true hbad]
          clear HR2 hbad
          go_wp2_with fail
          go_ret
          exact ⟨by rw [HF.o]; rfl, hb⟩
        · have HR3 := hq (HR2.o.trans (if_neg hbad))
          rw [decide_eq_false hbad]
          have hp : 0 < D.length := by
            by_cases h : 0 < D.length
            · exact h
            · exact absurd (.inl (by omega)) hbad
          clear HR2 hbad
          have hz0 : 0 < (st D).size := by rw [st_size]; exact hp
          have hz1 : D.length - 1 < (st D).size := by rw [st_size]; omega
          have hno : Hq (Dec.nought0 D ↔ ((st D)[0]'hz0).toNat = 48 ∨ ((st D)[D.length - 1]'hz1).toNat = 48) := hq (by
            have h1 : D.head? = some D[0] := by rw [List.head?_eq_getElem?, List.getElem?_eq_getElem hp]
            have h2 : D.getLast? = some (D[D.length - 1]'(by omega)) := by rw [List.getLast?_eq_getElem?, List.getElem?_eq_getElem (by omega)]
            unfold Dec.nought0
            rw [h1, h2]
            have e1 : ((st D)[0]'hz0) = D[0] := rfl
            have e2 : ((st D)[D.length - 1]'hz1) = D[D.length - 1]'(by omega) := rfl
            rw [e1, e2]
            simp only [Option.some.injEq, ← UInt8.toNat_inj]
            rfl)
          generalize hx0 : ((st D)[0]'hz0).toNat = x0 at hno
          generalize hx1 : ((st D)[D.length - 1]'hz1).toNat = x1 at hno
          have hy0 : (((st D)[0]'hz0).toNat : Int) = (x0 : Int) := by rw [hx0]
          have hy1 : (((st D)[D.length - 1]'hz1).toNat : Int) = (x1 : Int) := by rw [hx1]
          clear hx0 hx1
          go_upto_region 5 with fail
          go_cut [38] (fun c wx => c = .bool (decide (Dec.nought0 D)) ∧ wx = wc)
          case first =>
            by_cases g0 : x0 = 48
            · have hh : Hq (decide (Dec.nought0 D) = true) := hq (decide_eq_true (hno.o.2 (.inl g0)))
              have e0 : ((x0 : Int) == 48) = true := by rw [g0]; rfl
              clear g0
              go_wp2_with fail
              go_meet
              exact ⟨congrArg Value.bool hh.o.symm, rfl⟩
            · have e0 : ((x0 : Int) == 48) = false := beq_eq_false_iff_ne.2 (by omega)
              by_cases g1 : x1 = 48
              · have hh : Hq (decide (Dec.nought0 D) = true) := hq (decide_eq_true (hno.o.2 (.inr g1)))
                have e1 : ((x1 : Int) == 48) = true := by rw [g1]; rfl
                clear g0 g1
                go_wp2_with fail
                go_meet
                exact ⟨congrArg Value.bool hh.o.symm, rfl⟩
              · have hh : Hq (decide (Dec.nought0 D) = false) := hq (decide_eq_false (fun h => (hno.o.1 h).elim g0 g1))
                have e1 : ((x1 : Int) == 48) = false := beq_eq_false_iff_ne.2 (by omega)
                clear g0 g1
                go_wp2_with fail
                go_meet
                exact ⟨congrArg Value.bool hh.o.symm, rfl⟩
          case rest =>
            obtain ⟨rfl, rfl⟩ := hcut
            by_cases hn : Dec.nought0 D
            · have HF : Hq (R = false) := hq (by rw [HR3.o, if_pos hn])
              rw [decide_eq_true hn]
              clear HR3 hn hno
              go_wp2_with fail
              go_ret
              exact ⟨by rw [HF.o]; rfl, hb⟩
            · have HR4 := hq (HR3.o.trans (if_neg hn))
              rw [decide_eq_false hn]
              clear HR3 hn hno
              by_cases g1 : -1000000 ≤ E
              · by_cases g2 : E ≤ 1000000
                · have HF : Hq (R = true) := hq (by rw [HR4.o]; exact decide_eq_true ⟨g1, g2⟩)
                  clear HR4
                  go_wp2_with fail
                  go_ret
                  exact ⟨by rw [HF.o]; rfl, hb⟩
                · have HF : Hq (R = false) := hq (by rw [HR4.o]; exact decide_eq_false (fun h => g2 h.2))
                  clear HR4
                  go_wp2_with fail
                  go_ret
                  exact ⟨by rw [HF.o]; rfl, hb⟩
              · have HF : Hq (R = false) := hq (by rw [HR4.o]; exact decide_eq_false (fun h => g1 h.1))
                clear HR4
                go_wp2_with fail
                go_ret
                exact ⟨by rw [HF.o]; rfl, hb⟩
end Go.Proofs.YtleabaldjlbnlaaDoor
