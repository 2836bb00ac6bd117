/-
  THE WALK OF THE LAW RunesTells: which texts are UTF-8, the rune at a byte, and lines, are the document's.
-/
import Derived.Test.YtmecolgceeegpaaDoorRefAt
namespace Go.Proofs.YtmecolgceeegpaaDoor
open Go.RowKit

theorem own_grow {w w' : World} {B e size n : Nat} {v : Value} {xs : List Value} (h : w.ownsRow B e size v n xs) (hb : Below w.heap.size w w') : w'.ownsRow B e size v n xs := by
  obtain ⟨h1, h2⟩ := h
  refine ⟨h1, ?_⟩
  rcases h2 with h2 | ⟨g, cap, cur, hv, hg, hh, r⟩
  · exact .inl h2
  · exact .inr ⟨g, cap, cur, hv, hg, (hb.block g (Array.getElem?_eq_some_iff.1 hh).1).trans hh, r⟩

set_option maxHeartbeats 1000000 in
set_option maxRecDepth 1000000 in
theorem tells_any (s : ByteArray) (a : Int) (w : World) (hT : tabs w) (hs : s.size ≤ 1048576) (ha : -9223372036854775808 ≤ a ∧ a ≤ 9223372036854775807) :
    Calls Tryd.prog 3 #[.string s, .int .i64 a] w fun e w' => e = .returned (.bool true) ∧ Below w.heap.size w w' := by
  have HT := hq hT
  clear hT
  have HA := hq ha
  have HS : Hq (s.size ≤ maxLen) := hq (by unfold maxLen; omega)
  have hl0 : 0 < (lns s).length := by rw [lns_len]; omega
  have hll : (lns s).length ≤ s.size + 1 := by rw [lns_len]; have := lfs_le s s.size; omega
  go_enter Tryd.func3, Tryd.ntmps3
  go_wp2_with fail
  refine (small_any _ HT.o).mono ?_
  rintro e w1 ⟨rfl, hb1⟩
  have HT1 := hq (tabs_grow HT.o hb1)
  generalize hV : valid s = V
  go_wp2_with fail
  refine (valid_any s _ HT1.o HS.o).mono ?_
  rw [hV]
  rintro e w2 ⟨rfl, hb2⟩
  have hb12 := hb1.trans (hb2.mono hb1.size)
  have HT2 := hq (tabs_grow HT.o hb12)
  go_wp2_with fail
  refine (rvalid_any s _ HS.o).mono ?_
  rw [hV]
  clear hV
  rintro e w' ⟨rfl, rfl⟩
  generalize hM : nxt s a = M
  go_wp2_with fail
  refine (next_any s a _ HT2.o HS.o HA.o).mono ?_
  rw [hM]
  rintro e w3 ⟨rfl, hb3⟩
  have hb13 := hb12.trans (hb3.mono hb12.size)
  go_wp2_with fail
  refine (rnext_any s a _ HS.o HA.o).mono ?_
  rw [hM]
  clear hM
  rintro e w' ⟨rfl, rfl⟩
  go_wp2_with fail
  refine (lines_any s _ (by omega)).mono ?_
  rintro e w4 ⟨v, rfl, hown, hb4⟩
  have HO := hq hown
  clear hown
  go_wp2_with fail
  refine (rlines_any s _ (by omega)).mono ?_
  rintro e w5 ⟨v', rfl, hown', hb5⟩
  have HO5 := hq (own_grow HO.o hb5)
  have HO' := hq hown'
  clear hown'
  go_wp2_with fail
  refine (same_any v v' (lns s) _ (SpansAt.of HO5.o hl0) (SpansAt.of HO'.o hl0)).mono ?_
  rintro e w6 ⟨rfl, hb6⟩
  have HO6 := hq (own_grow HO5.o hb6)
  have hb36 : Below w3.heap.size w3 w6 := (hb4.trans (hb5.mono hb4.size)).trans (hb6.mono (hb4.trans (hb5.mono hb4.size)).size)
  obtain ⟨g, cap, rfl, hg1, hg2, hcap, hcm, _⟩ := spans_cell HO6.o hl0
  have HX : Hq (∃ xs, w6.ownsRow w3.heap.size 31 2 (.slice (some ⟨g, 0, none⟩) (lns s).length cap) (lns s).length xs) := hq ⟨_, HO6.o⟩
  clear HO HO5 HO' HO6
  generalize hN : (lns s).length = N at *
  clear hN
  unfold maxLen at hcm
  go_wp2
  go_loopw [16] (fun j wr => ∃ n : Nat, j = .int .i64 n ∧ n ≤ N ∧ Below w3.heap.size w3 wr ∧ Hq (∃ xs, wr.ownsRow w3.heap.size 31 2 (.slice (some ⟨g, 0, none⟩) N cap) N xs)) (fun j _ => N - (intOf j).toNat)
  case atStart => exact ⟨0, rfl, by omega, hb36, HX⟩
  case round =>
    obtain ⟨n, rfl, hn, hb, hx⟩ := hrel
    by_cases hlt : n < N
    · obtain ⟨xs, hxs⟩ := hx.o
      have hlen := hxs.1
      have c1 : wr.cell? ⟨g, n * 2, none⟩ = some (xs[n * 2]'(by omega)) := by rw [hxs.cellAt (n * 2) (by omega), List.getElem?_eq_getElem (by omega)]
      have f1 : wr.frozen? ⟨g, n * 2, none⟩ = false := hxs.frozenAt _
      have hst := hxs.stored (n * 2) (.int .i64 (-7))
      have HST := hq hst
      generalize (xs[n * 2]'(by omega)) = u at c1
      clear hst hxs hlen
      go_wp2
      go_roundw
      case rel => exact ⟨n + 1, by go_num, by omega, hb.setCell hg1 _, hq ⟨_, HST.o.1⟩⟩
      case measure => simp [intOf]; omega
    · have hbr := hb13.trans (hb.mono hb13.size)
      obtain ⟨v1, v2⟩ := V
      obtain ⟨m1, m2⟩ := M
      have e1 : ((v1 : Int) == (v1 : Int)) = true := by simp
      have e2 : (v2 == v2) = true := by simp
      have e3 : (m1 == m1) = true := by simp
      have e4 : (m2 == m2) = true := by simp
      have hl00 : Hq (0 < (lns s).length) := hq (by rw [lns_len]; omega)
      go_wp2_with fail
      refine (lines_any s _ (by omega)).mono ?_
      rintro e w7 ⟨x, rfl, hown, hb7⟩
      have HO := hq hown
      clear hown
      go_wp2_with fail
      refine (rlines_any s _ (by omega)).mono ?_
      rintro e w8 ⟨x', rfl, hown', hb8⟩
      have HO5 := hq (own_grow HO.o hb8)
      have HO' := hq hown'
      clear hown'
      go_wp2_with fail
      refine (same_any x x' (lns s) _ (SpansAt.of HO5.o hl00.o) (SpansAt.of HO'.o hl00.o)).mono ?_
      rintro e w9 ⟨rfl, hb9⟩
      have h7 := hbr.trans (hb7.mono hbr.size)
      have h8 := h7.trans (hb8.mono h7.size)
      have h9 := h8.trans (hb9.mono h8.size)
      go_wp2
      go_ret
      exact ⟨rfl, h9⟩
end Go.Proofs.YtmecolgceeegpaaDoor
