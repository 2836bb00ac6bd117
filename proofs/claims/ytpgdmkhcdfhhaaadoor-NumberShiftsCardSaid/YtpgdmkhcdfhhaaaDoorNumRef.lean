/-
  WALKS: the document's own answers of layer 2: digits, nought, Right, size, Compare.
-/
import Derived.Test.YtpgdmkhcdfhhaaaDoorNumComp
namespace Go.Proofs.YtpgdmkhcdfhhaaaDoor
open Go.RowKit

set_option maxHeartbeats 400000 in
set_option maxRecDepth 1000000 in
theorem rdigits_any (l : Bs) (w : World) (hl : l.length ≤ 1099511627776) :
    Calls Tryd.prog 41 #[.string (st l)] w fun e w' => e = .returned (.bool (decide (l ≠ [] ∧ l.all isDig = true))) ∧ w' = w := by
  generalize hR : decide (l ≠ [] ∧ l.all isDig = true) = R
  have HR := hq hR
  clear hR
  go_enter Tryd.func41, Tryd.ntmps41
  go_wp2
  go_loop [3] (fun a => ∃ k : Nat, a = .int .i64 k ∧ k ≤ l.length ∧ Hq ((l.take k).all isDig = true)) (fun a => l.length - (intOf a).toNat)
  case atStart => exact ⟨0, rfl, by omega, hq rfl⟩
  case round =>
    obtain ⟨k, rfl, hk, hd⟩ := hrel
    by_cases hlt : k < l.length
    · have hz : k < (st l).size := by rw [st_size]; exact hlt
      have hstep : Hq ((l.take (k + 1)).all isDig = (decide (48 ≤ ((st l)[k]'hz).toNat) && decide (((st l)[k]'hz).toNat ≤ 57))) := hq (by
        rw [List.take_succ_eq_append_getElem hlt, List.all_append, hd.o, Bool.true_and, List.all_cons, List.all_nil, Bool.and_true]
        rfl)
      have hno : Hq ((l.take (k + 1)).all isDig = false → R = false) := hq (fun h => by
        rw [← HR.o]
        refine decide_eq_false (fun hh => ?_)
        have := List.all_eq_true.1 hh.2
        rw [List.all_eq_false] at h
        obtain ⟨y, hy, hy2⟩ := h
        exact hy2 (this y (List.mem_of_mem_take hy)))
      generalize hx : ((st l)[k]'hz).toNat = x at hstep
      have hy : (((st l)[k]'hz).toNat : Int) = (x : Int) := by rw [hx]
      clear hx
      by_cases g1 : 48 ≤ x
      · by_cases g2 : x ≤ 57
        · have hnext : Hq ((l.take (k + 1)).all isDig = true) := hq (by rw [hstep.o]; simp [g1, g2])
          clear hstep hno hd
          go_wp2
          go_round
          case rel => exact ⟨k + 1, rfl, by omega, hnext⟩
          case measure => simp [intOf]; omega
        · have HN := hq (hno.o (by rw [hstep.o]; simp [g2]))
          clear hstep hno hd
          go_wp2
          go_ret
          exact ⟨by rw [HN.o]; rfl, rfl⟩
      · have HN := hq (hno.o (by rw [hstep.o]; simp [g1]))
        clear hstep hno hd
        go_wp2
        go_ret
        exact ⟨by rw [HN.o]; rfl, rfl⟩
    · have hkl : k = l.length := by omega
      have HN : Hq (R = decide (0 < l.length)) := hq (by
        rw [← HR.o]
        have := hd.o
        rw [hkl, List.take_length] at this
        refine decide_eq_decide.2 ⟨fun h => ?_, fun h => ⟨fun h2 => ?_, this⟩⟩
        · exact List.length_pos_iff.2 h.1
        · rw [h2] at h; simp at h)
      clear hd
      go_wp2
      go_ret
      exact ⟨by rw [HN.o]; rfl, rfl⟩
set_option maxHeartbeats 400000 in
set_option maxRecDepth 1000000 in
theorem rnought_any (neg : Bool) (D : Bs) (E : Int) (w : World) :
    Calls Tryd.prog 40 #[.agg #[.bool neg, .string (st D), .int .i64 E]] w fun e w' => e = .returned (.bool (decide (Dec.mk neg D E = .zero))) ∧ Below w.heap.size w w' := by
  have heq := eq_num neg D E
  have hb := below_alloc w (.cells #[.bool neg, .string (st D), .int .i64 E] 23)
  generalize decide (Dec.mk neg D E = .zero) = B at *
  go_enter Tryd.func40, Tryd.ntmps40
  go_wp2_with fail
  go_ret
  exact ⟨rfl, hb⟩
set_option maxHeartbeats 400000 in
set_option maxRecDepth 1000000 in
theorem rright_any (neg : Bool) (D : Bs) (E : Int) (w : World) (hD : D.length ≤ 1099511627776) (hE : -9223372036854775808 ≤ E ∧ E ≤ 9223372036854775807) :
    Calls Tryd.prog 19 #[.agg #[.bool neg, .string (st D), .int .i64 E]] w fun e w' => e = .returned (.bool (Dec.right ⟨neg, D, E⟩)) ∧ Below w.heap.size w w' := by
  generalize hR : Dec.right ⟨neg, D, E⟩ = R
  have HR := hq hR
  clear hR
  go_enter Tryd.func19, Tryd.ntmps19
  go_wp2_with fail
  refine (rnought_any neg D E _).mono ?_
  rintro e w1 ⟨rfl, hb1⟩
  have hb := (below_alloc w (.cells #[.bool neg, .string (st D), .int .i64 E] 23)).trans (hb1.mono (by rw [World.size_alloc]; omega))
  have hW := (Whole.made w 23 #[.bool neg, .string (st D), .int .i64 E]).grow hb1
  clear hb1
  obtain ⟨c0, c1, c2⟩ := three_cells hW
  by_cases hz : Dec.mk neg D E = .zero
  · rw [decide_eq_true hz]
    have HN : Hq (R = true) := hq (by rw [← HR.o]; unfold Dec.right; exact if_pos hz)
    clear HR hz
    go_wp2_with fail
    go_ret
    exact ⟨by rw [HN.o]; rfl, hb⟩
  · rw [decide_eq_false hz]
    have HR2 : Hq (R = if Dec.bad D then false else if Dec.nought0 D then false else decide (-1000000 ≤ E ∧ E ≤ 1000000)) := hq (by rw [← HR.o]; unfold Dec.right; rw [if_neg hz])
    clear HR hz
    go_wp2_with fail
    refine (rdigits_any D _ hD).mono ?_
    by_cases hok : D ≠ [] ∧ D.all isDig = true
    · rw [decide_eq_true hok]
      rintro e w2 ⟨rfl, hw2⟩
      obtain rfl := hw2.symm
      have hp : 0 < D.length := List.length_pos_iff.2 hok.1
      by_cases hk : D.length ≤ 1000
      · have HR3 : Hq (R = if Dec.nought0 D then false else decide (-1000000 ≤ E ∧ E ≤ 1000000)) := hq (HR2.o.trans (if_neg (by
          unfold Dec.bad
          rintro (h | h | h)
          · omega
          · omega
          · rw [hok.2] at h; cases h)))
        have hz0 : 0 < (st D).size := by rw [st_size]; exact hp
        have hz1 : D.length - 1 < (st D).size := by rw [st_size]; omega
        have hno : Hq (Dec.nought0 D ↔ ((st D)[0]'hz0).toNat = 48 ∨ ((st D)[D.length - 1]'hz1).toNat = 48) := hq (by
          have h1 : D.head? = some D[0] := by rw [List.head?_eq_getElem?, List.getElem?_eq_getElem hp]
          have h2 : D.getLast? = some (D[D.length - 1]'(by omega)) := by rw [List.getLast?_eq_getElem?, List.getElem?_eq_getElem (by omega)]
          unfold Dec.nought0
          rw [h1, h2]
          have e1 : ((st D)[0]'hz0) = D[0] := rfl
          have e2 : ((st D)[D.length - 1]'hz1) = D[D.length - 1]'(by omega) := rfl
          rw [e1, e2]
          simp only [Option.some.injEq, ← UInt8.toNat_inj]
          rfl)
        generalize hx0 : ((st D)[0]'hz0).toNat = x0 at hno
        generalize hx1 : ((st D)[D.length - 1]'hz1).toNat = x1 at hno
        have hy0 : (((st D)[0]'hz0).toNat : Int) = (x0 : Int) := by rw [hx0]
        have hy1 : (((st D)[D.length - 1]'hz1).toNat : Int) = (x1 : Int) := by rw [hx1]
        clear hx0 hx1 HR2 hok
        by_cases g0 : x0 = 48
        · have HN := hq (HR3.o.trans (if_pos (hno.o.2 (.inl g0))))
          have e0 : ((x0 : Int) != 48) = false := by rw [g0]; rfl
          clear g0 HR3 hno
          go_wp2_with fail
          go_ret
          exact ⟨by rw [HN.o]; rfl, hb⟩
        · have e0 : ((x0 : Int) != 48) = true := bne_iff_ne.2 (by omega)
          by_cases g1 : x1 = 48
          · have HN := hq (HR3.o.trans (if_pos (hno.o.2 (.inr g1))))
            have e1 : ((x1 : Int) != 48) = false := by rw [g1]; rfl
            clear g0 g1 HR3 hno
            go_wp2_with fail
            go_ret
            exact ⟨by rw [HN.o]; rfl, hb⟩
          · have HR4 := hq (HR3.o.trans (if_neg (fun h => (hno.o.1 h).elim g0 g1)))
            have e1 : ((x1 : Int) != 48) = true := bne_iff_ne.2 (by omega)
            clear g0 g1 HR3 hno
            by_cases g1 : -1000000 ≤ E
            · by_cases g2 : E ≤ 1000000
              · have HF : Hq (R = true) := hq (by rw [HR4.o]; exact decide_eq_true ⟨g1, g2⟩)
                clear HR4
                go_wp2_with fail
                go_ret
                exact ⟨by rw [HF.o]; rfl, hb⟩
              · have HF : Hq (R = decide (E ≤ 1000000)) := hq (by rw [HR4.o]; exact decide_eq_decide.2 ⟨fun h => h.2, fun h => ⟨g1, h⟩⟩)
                clear HR4
                go_wp2_with fail
                go_ret
                exact ⟨by rw [HF.o]; rfl, hb⟩
            · have HF : Hq (R = false) := hq (by rw [HR4.o]; exact decide_eq_false (fun h => g1 h.1))
              clear HR4
              go_wp2_with fail
              go_ret
              exact ⟨by rw [HF.o]; rfl, hb⟩
      · have HN := hq (HR2.o.trans (if_pos (.inr (.inl (by omega)))))
        clear HR2 hok
        go_wp2_with fail
        go_ret
        exact ⟨by rw [HN.o]; rfl, hb⟩
    · rw [decide_eq_false hok]
      rintro e w2 ⟨rfl, hw2⟩
      obtain rfl := hw2.symm
      have HN : Hq (R = false) := hq (HR2.o.trans (if_pos (by
        unfold Dec.bad
        by_cases h : D = []
        · left; rw [h]; simp
        · right; right
          cases hh : D.all isDig with
          | true => exact absurd ⟨h, hh⟩ hok
          | false => rfl)))
      clear HR2 hok
      go_wp2_with fail
      go_ret
      exact ⟨by rw [HN.o]; rfl, hb⟩

end Go.Proofs.YtpgdmkhcdfhhaaaDoor
