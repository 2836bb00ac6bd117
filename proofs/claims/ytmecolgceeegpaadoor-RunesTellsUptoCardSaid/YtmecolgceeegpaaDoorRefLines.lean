/-
  WALKS: the document's own answers of layer 1: Good, Valid, Lines, SameSpans.
-/
import Derived.Test.YtmecolgceeegpaaDoorRefNext
import Derived.BigQuiet
import Derived.Deep.QuietTactic
import Derived.WalkSmall
namespace Go.Proofs.YtmecolgceeegpaaDoor
open Go.RowKit

theorem nxt_in (s : ByteArray) (p : Nat) (h : p < s.size) : nxt s (p : Int) = (((Utf8.decode s p).1 : Int), ((Utf8.decode s p).2 : Int)) := by
  unfold nxt; rw [if_neg (by omega)]; rfl

set_option maxHeartbeats 400000 in
set_option maxRecDepth 1000000 in
theorem rgood_any (s : ByteArray) (p : Nat) (w : World) (hs : s.size ≤ maxLen) (hp : p < s.size) :
    Calls Tryd.prog 20 #[.string s, .int .i64 p] w fun e w' => e = .returned (.bool (decide (¬ bad s p))) ∧ w = w' := by
  have HS := hq hs
  unfold maxLen at hs
  have hwp := wd_pos s p
  have HN := hq (nxt_in s p hp)
  have HB : Hq (bad s p ↔ (Utf8.decode s p).1 = 65533 ∧ (Utf8.decode s p).2 = 1) := hq Iff.rfl
  unfold wd at hwp
  generalize (Utf8.decode s p).1 = C at *
  generalize (Utf8.decode s p).2 = K at *
  generalize hG : decide (¬ bad s p) = G
  have HG := hq hG
  clear hG
  go_enter Tryd.func20, Tryd.ntmps20
  go_wp2_with fail
  refine (rnext_any s p _ HS.o (by omega)).mono ?_
  rw [HN.o]
  rintro e w' ⟨rfl, rfl⟩
  have hkp : (0 : Int) < (K : Int) := by omega
  by_cases h1 : C = 65533
  · have e1 : ((C : Int) == 65533) = true := by simp [h1]
    by_cases h2 : K = 1
    · have e2 : ((K : Int) == 1) = true := by simp [h2]
      have g : G = false := by rw [← HG.o]; simp [HB.o, h1, h2]
      clear h1 h2
      subst g
      go_wp2
      go_ret
      exact ⟨rfl, rfl⟩
    · have e2 : ((K : Int) == 1) = false := beq_eq_false_iff_ne.2 (by omega)
      have g : G = true := by rw [← HG.o]; simp [HB.o, h2]
      clear h1 h2
      subst g
      go_wp2
      go_ret
      exact ⟨rfl, rfl⟩
  · have e1 : ((C : Int) == 65533) = false := beq_eq_false_iff_ne.2 (by omega)
    have g : G = true := by rw [← HG.o]; simp [HB.o, h1]
    clear h1
    subst g
    go_wp2
    go_ret
    exact ⟨rfl, rfl⟩

set_option maxHeartbeats 400000 in
set_option maxRecDepth 1000000 in
theorem rvalid_any (s : ByteArray) (w : World) (hs : s.size ≤ maxLen) :
    Calls Tryd.prog 10 #[.string s] w fun e w' => e = .returned (.tuple #[.int .i64 (valid s).1, .bool (valid s).2]) ∧ w = w' := by
  have HS := hq hs
  unfold maxLen at hs
  generalize hV : valid s = V
  have HV := hq hV
  clear hV
  go_enter Tryd.func10, Tryd.ntmps10
  go_wp2
  go_loop [4] (fun a => ∃ (pos f : Nat), a = .int .i64 pos ∧ pos ≤ s.size ∧ Hq (vld s f pos = V) ∧ s.size ≤ pos + f) (fun a => s.size - (intOf a).toNat)
  case atStart => exact ⟨0, s.size, rfl, by omega, hq HV.o, by omega⟩
  case round =>
    obtain ⟨pos, f, rfl, hp, hv, hf⟩ := hrel
    by_cases hlt : pos < s.size
    · obtain ⟨f, rfl⟩ : ∃ g, f = g + 1 := ⟨f - 1, by omega⟩
      have hwp := wd_pos s pos
      have hwl := wd_le s pos hlt
      have HN := hq (nxt_in s pos hlt)
      have HBAD : Hq (bad s pos → vld s (f + 1) pos = (pos, false)) := hq (fun h => by rw [vld, if_pos hlt, if_pos h])
      have HGOOD : Hq (¬ bad s pos → vld s (f + 1) pos = vld s f (pos + (Utf8.decode s pos).2)) := hq (fun h => by rw [vld, if_pos hlt, if_neg h]; rfl)
      unfold wd at hwp hwl
      generalize (Utf8.decode s pos).1 = C at *
      generalize (Utf8.decode s pos).2 = K at *
      go_wp2_with fail
      refine (rgood_any s pos _ HS.o hlt).mono ?_
      generalize hG : decide (¬ bad s pos) = G
      rintro e w' ⟨rfl, rfl⟩
      cases G with
      | false =>
        have hb : bad s pos := by simpa using hG
        have hr : (pos, false) = V := (HBAD.o hb).symm.trans hv.o
        have HR := hq hr
        clear hG hb hr
        go_wp2
        go_ret2
        rw [← HR.o]
        exact ⟨rfl, rfl⟩
      | true =>
        have hb : ¬ bad s pos := by simpa using hG
        have HR := hq ((HGOOD.o hb).symm.trans hv.o)
        clear hG hb
        go_wp2_with fail
        refine (rnext_any s pos _ HS.o (by omega)).mono ?_
        rw [HN.o]
        rintro e w' ⟨rfl, rfl⟩
        go_wp2
        go_round
        case rel => exact ⟨pos + K, f, by go_num, by omega, HR, by omega⟩
        case measure => simp [intOf]; omega
    · have hr := hv.o
      rw [vld_end s f pos hlt] at hr
      have HR := hq hr
      clear hr
      go_wp2
      go_ret2
      rw [← HR.o]
      exact ⟨rfl, rfl⟩

set_option maxHeartbeats 400000 in
set_option maxRecDepth 1000000 in
theorem rlines_any (s : ByteArray) (w : World) (hs : s.size ≤ 1099511627776) :
    Calls Tryd.prog 15 #[.string s] w fun e w' => ∃ v, e = .returned v ∧ w'.ownsRow w.heap.size 31 2 v (lns s).length (spanCells (lns s)) ∧ Below w.heap.size w w' := by
  obtain ⟨i0, hi, hz0, hz1, hz2⟩ := info_parts infoSpan
  go_enter Tryd.func15, Tryd.ntmps15
  go_wp2
  go_loopw [3, 4, 5] (fun v fr i wr => ∃ pos : Nat, pos ≤ s.size ∧ i = .int .i64 pos ∧ fr = .int .i64 (lst s pos) ∧ wr.ownsRow w.heap.size 31 2 v (lnsTo s pos).length (spanCells (lnsTo s pos)) ∧ Below w.heap.size w wr)
    (fun _ _ i _ => s.size - (intOf i).toNat)
  case atStart => exact ⟨0, Nat.zero_le _, rfl, rfl, World.ownsRow_nil _ _ _ _, Below.refl _ _⟩
  case round =>
    obtain ⟨pos, hpos, rfl, rfl, hown, hb⟩ := hrel
    have hll := lst_le s pos
    have hnl := lnsTo_len_le s pos
    have hsz := hb.size
    by_cases hp : pos < s.size
    · have hpz : (pos : Int) < (s.size : Int) := by omega
      have HL1 := hq (lst_succ s pos)
      have HL2 := hq (lnsTo_succ s pos)
      by_cases hc : byt s pos = 10
      · have HC := hq hc
        have hcb : (((s[pos]'hp).toNat : Int) == 10) = true := by rw [← byt_eq s pos hp, hc]; rfl
        clear hc
        obtain ⟨hr1, hr2⟩ := span_room (by omega : (lnsTo s pos).length ≤ 1099511627776)
        go_wp2_with (at_builtin; refine wpList_append_own _ rfl _ _ 27 rfl w.heap.size 31 i0 (.agg #[.int .i64 0, .int .i64 0]) 2 16 Tryd.underlying27 hi hz0 hz1 hz2 rfl (by decide) _ _ _ rfl (hown.alloc _) ⟨wr.heap.size, 0, none⟩ 1 1 [.int .i64 (lst s pos), .int .i64 (pos + 1)] rfl rfl (new_cells _ [.int .i64 (lst s pos), .int .i64 (pos + 1)] _) (two_one _ _) hr1 hr2 (by rw [World.size_alloc]; omega) ?_)
        intro v' w1 hown' hgrow _
        have hb3 := (hb.alloc (by omega) _).grown hgrow (by rw [World.size_alloc]; omega) (own_other hown (by omega))
        go_wp2
        go_roundw
        case rel =>
          refine ⟨pos + 1, by omega, by go_num, ?_, ?_, hb3⟩
          · rw [HL1.o, if_pos HC.o]; rfl
          · rw [HL2.o, if_pos HC.o, spanCells_snoc, List.length_append]; exact hown'
        case measure => simp [intOf]; omega
      · have HC := hq hc
        have hcb : (((s[pos]'hp).toNat : Int) == 10) = false := by rw [← byt_eq s pos hp]; exact beq_eq_false_iff_ne.2 (by omega)
        clear hc
        go_wp2
        go_roundw
        case rel =>
          refine ⟨pos + 1, by omega, by go_num, ?_, ?_, hb⟩
          · rw [HL1.o, if_neg HC.o]
          · rw [HL2.o, if_neg HC.o]; exact hown
        case measure => simp [intOf]; omega
    · obtain rfl : pos = s.size := by omega
      obtain ⟨hr1, hr2⟩ := span_room (by omega : (lnsTo s s.size).length ≤ 1099511627776)
      go_wp2_with (at_builtin; refine wpList_append_own _ rfl _ _ 27 rfl w.heap.size 31 i0 (.agg #[.int .i64 0, .int .i64 0]) 2 16 Tryd.underlying27 hi hz0 hz1 hz2 rfl (by decide) _ _ _ rfl (hown.alloc _) ⟨wr.heap.size, 0, none⟩ 1 1 [.int .i64 (lst s s.size), .int .i64 s.size] rfl rfl (new_cells _ [.int .i64 (lst s s.size), .int .i64 s.size] _) (two_one _ _) hr1 hr2 (by rw [World.size_alloc]; omega) ?_)
      intro v' w1 hown' hgrow _
      go_wp2
      go_ret
      have hb3 := (hb.alloc (by omega) _).grown hgrow (by rw [World.size_alloc]; omega) (own_other hown (by omega))
      refine ⟨v', rfl, ?_, hb3⟩
      unfold lns
      rw [spanCells_snoc, List.length_append]
      exact hown'

/-- the cells of a row of spans that is only read -/
def SpansAt (w : World) (v : Value) (l : List (Nat × Nat)) : Prop :=
  ∃ g cap, v = .slice (some ⟨g, 0, none⟩) l.length cap ∧ g < w.heap.size ∧ l.length ≤ cap ∧ cap ≤ maxLen ∧
    ∀ (i f t : Nat), l[i]? = some (f, t) → w.cell? ⟨g, i * 2, none⟩ = some (.int .i64 f) ∧ w.cell? ⟨g, i * 2 + 1, none⟩ = some (.int .i64 t)
theorem SpansAt.of {w : World} {B : Nat} {v : Value} {l : List (Nat × Nat)} (h : w.ownsRow B 31 2 v l.length (spanCells l)) (hl : 0 < l.length) : SpansAt w v l := by
  obtain ⟨g, cap, hv, h1, h2, h3, h4, h5⟩ := spans_cell h hl
  exact ⟨g, cap, hv, h2, h3, h4, fun i f t hi => by have := h5 i f t hi; rw [Nat.mul_comm 2 i] at this; exact this⟩
theorem SpansAt.grow {w w' : World} {v : Value} {l : List (Nat × Nat)} (h : SpansAt w v l) (hb : Below w.heap.size w w') : SpansAt w' v l := by
  obtain ⟨g, cap, hv, h2, h3, h4, h5⟩ := h
  exact ⟨g, cap, hv, Nat.lt_of_lt_of_le h2 hb.size, h3, h4, fun i f t hi => by
    have := h5 i f t hi
    exact ⟨(hb.cell (p := ⟨g, i * 2, none⟩) h2).trans this.1, (hb.cell (p := ⟨g, i * 2 + 1, none⟩) h2).trans this.2⟩⟩

set_option maxHeartbeats 1000000 in
set_option maxRecDepth 1000000 in
/-- two rows of the same spans -/
theorem same_any (a b : Value) (l : List (Nat × Nat)) (w : World) (ha : SpansAt w a l) (hb : SpansAt w b l) :
    Calls Tryd.prog 14 #[a, b] w fun e w' => e = .returned (.bool true) ∧ Below w.heap.size w w' := by
  obtain ⟨g, cap, rfl, h1, h2, h3, h4⟩ := ha
  obtain ⟨g', cap', rfl, h1', h2', h3', h4'⟩ := hb
  have H4 := hq h4
  have H4' := hq h4'
  clear h4 h4'
  unfold maxLen at h3 h3'
  generalize hN : l.length = N at *
  have HN := hq hN
  clear hN
  have e0 : ((N : Int) != (N : Int)) = false := by simp
  go_enter Tryd.func14, Tryd.ntmps14
  go_wp2
  go_loopw [5] (fun i wr => ∃ n : Nat, i = .int .i64 n ∧ n ≤ N ∧ Below w.heap.size w wr) (fun i _ => N - (intOf i).toNat)
  case atStart => exact ⟨0, rfl, by omega, Below.refl _ _⟩
  case round =>
    obtain ⟨n, rfl, hn, hb⟩ := hrel
    by_cases hlt : n < N
    · obtain ⟨⟨f, t⟩, hft⟩ : ∃ x, l[n]? = some x := ⟨_, List.getElem?_eq_getElem (by rw [HN.o]; omega)⟩
      have hnz : (n : Int) < (N : Int) := by omega
      have c1 := (hb.cell (p := ⟨g, n * 2, none⟩) h1).trans (H4.o n f t hft).1
      have c2 := (hb.cell (p := ⟨g, n * 2 + 1, none⟩) h1).trans (H4.o n f t hft).2
      have c1' := (hb.cell (p := ⟨g', n * 2, none⟩) h1').trans (H4'.o n f t hft).1
      have c2' := (hb.cell (p := ⟨g', n * 2 + 1, none⟩) h1').trans (H4'.o n f t hft).2
      clear hft
      go_wp2
      go_quiet (fail)
      go_wp2
      go_roundw
      case rel => exact ⟨n + 1, by go_num, by omega, below_drewN hb _⟩
      case measure => simp [intOf]; omega
    · go_wp2
      go_ret
      exact ⟨rfl, hb⟩
end Go.Proofs.YtmecolgceeegpaaDoor
