/-
  WALKS: the document's digits.
-/
import Derived.Test.YtinenhnfhdeidaaDoorNumParse
namespace Go.Proofs.YtinenhnfhdeidaaDoor
open Go.RowKit

set_option maxHeartbeats 400000 in
set_option maxRecDepth 1000000 in
theorem rdigits_any (l : Bs) (w : World) (hl : l.length ≤ 1099511627776) :
    Calls Tryd.prog 72 #[.string (st l)] w fun e w' => e = .returned (.bool (decide (l ≠ [] ∧ l.all isDig = true))) ∧ w' = w := by
  generalize hR : decide (l ≠ [] ∧ l.all isDig = true) = R
  have HR := hq hR
  clear hR
  go_enter Tryd.func72, Tryd.ntmps72
  go_wp2
  go_loop [3] (fun a => ∃ k : Nat, a = .int .i64 k ∧ k ≤ l.length ∧ Hq ((l.take k).all isDig = true)) (fun a => l.length - (intOf a).toNat)
  case atStart => exact ⟨0, rfl, by omega, hq rfl⟩
  case round =>
    obtain ⟨k, rfl, hk, hd⟩ := hrel
    by_cases hlt : k < l.length
    · have hz : k < (st l).size := by rw [st_size]; exact hlt
      have hstep : Hq ((l.take (k + 1)).all isDig = (decide (48 ≤ ((st l)[k]'hz).toNat) && decide (((st l)[k]'hz).toNat ≤ 57))) := hq (by
        rw [List.take_succ_eq_append_getElem hlt, List.all_append, hd.o, Bool.true_and, List.all_cons, List.all_nil, Bool.and_true]
        rfl)
      have hno : Hq ((l.take (k + 1)).all isDig = false → R = false) := hq (fun h => by
        rw [← HR.o]
        refine decide_eq_false (fun hh => ?_)
        have := List.all_eq_true.1 hh.2
        rw [List.all_eq_false] at h
        obtain ⟨y, hy, hy2⟩ := h
        exact hy2 (this y (List.mem_of_mem_take hy)))
      generalize hx : ((st l)[k]'hz).toNat = x at hstep
      have hy : (((st l)[k]'hz).toNat : Int) = (x : Int) := by rw [hx]
      clear hx
      by_cases g1 : 48 ≤ x
      · by_cases g2 : x ≤ 57
        · have hnext : Hq ((l.take (k + 1)).all isDig = true) := hq (by rw [hstep.o]; simp [g1, g2])
          clear hstep hno hd
          go_wp2
          go_round
          case rel => exact ⟨k + 1, rfl, by omega, hnext⟩
          case measure => simp [intOf]; omega
        · have HN := hq (hno.o (by rw [hstep.o]; simp [g2]))
          clear hstep hno hd
          go_wp2
          go_ret
          exact ⟨by rw [HN.o]; rfl, rfl⟩
      · have HN := hq (hno.o (by rw [hstep.o]; simp [g1]))
        clear hstep hno hd
        go_wp2
        go_ret
        exact ⟨by rw [HN.o]; rfl, rfl⟩
    · have hkl : k = l.length := by omega
      have HN : Hq (R = decide (0 < l.length)) := hq (by
        rw [← HR.o]
        have := hd.o
        rw [hkl, List.take_length] at this
        refine decide_eq_decide.2 ⟨fun h => ?_, fun h => ⟨fun h2 => ?_, this⟩⟩
        · exact List.length_pos_iff.2 h.1
        · rw [h2] at h; simp at h)
      clear hd
      go_wp2
      go_ret
      exact ⟨by rw [HN.o]; rfl, rfl⟩
end Go.Proofs.YtinenhnfhdeidaaDoor
