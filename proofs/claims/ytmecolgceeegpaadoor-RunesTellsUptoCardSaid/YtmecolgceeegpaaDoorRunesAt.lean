/-
  WALKS: runes.At.
-/
import Derived.Test.YtmecolgceeegpaaDoorRunesPlace
import Derived.Deep.MidRow
namespace Go.Proofs.YtmecolgceeegpaaDoor
open Go.RowKit

/-- what At answers -/
def atw (o : Option Nat) : Int × Bool := match o with | some q => (q, true) | none => (0, false)
def atm (s : ByteArray) (line col : Int) : Int × Bool :=
  if line < 1 ∨ ((lns s).length : Int) < line ∨ col < 1 then (0, false)
  else atw (walkTo s ((lns s).getD (line - 1).toNat (0, 0)).2 (col - 1).toNat ((lns s).getD (line - 1).toNat (0, 0)).1)

theorem spans_cell {w : World} {B : Nat} {v : Value} {l : List (Nat × Nat)} (h : w.ownsRow B 31 2 v l.length (spanCells l)) (hl : 0 < l.length) :
    ∃ g cap, v = .slice (some ⟨g, 0, none⟩) l.length cap ∧ B ≤ g ∧ g < w.heap.size ∧ l.length ≤ cap ∧ cap ≤ maxLen ∧
      ∀ (i f t : Nat), l[i]? = some (f, t) → w.cell? ⟨g, 2 * i, none⟩ = some (.int .i64 f) ∧ w.cell? ⟨g, 2 * i + 1, none⟩ = some (.int .i64 t) := by
  rcases h.2 with ⟨_, h0⟩ | ⟨g, cap, cur, hv, hg, hh, hc, hm, _⟩
  · omega
  · refine ⟨g, cap, hv, hg, (Array.getElem?_eq_some_iff.1 hh).1, hc, hm, fun i f t hi => ?_⟩
    have hcl := h.cells (g := g) (by rw [hv]; rfl)
    have hs := spanCells_at l i f t hi
    have e1 : (⟨g, 0, none⟩ : Addr).add (2 * i) = ⟨g, 2 * i, none⟩ := by simp [Addr.add]; omega
    have e2 : (⟨g, 0, none⟩ : Addr).add (2 * i + 1) = ⟨g, 2 * i + 1, none⟩ := by simp [Addr.add]
    refine ⟨?_, ?_⟩
    · rw [← e1]; exact hcl _ _ hs.1
    · rw [← e2]; exact hcl _ _ hs.2

set_option maxHeartbeats 400000 in
set_option maxRecDepth 1000000 in
theorem at_any (s : ByteArray) (line col : Int) (w : World) (hs : s.size ≤ 1099511627776) (hl : -9223372036854775808 ≤ line ∧ line ≤ 9223372036854775807) (hc : -9223372036854775808 ≤ col ∧ col ≤ 9223372036854775807) :
    Calls Tryd.prog 18 #[.string s, .int .i64 line, .int .i64 col] w fun e w' => e = .returned (.tuple #[.int .i64 (atm s line col).1, .bool (atm s line col).2]) ∧ Below w.heap.size w w' := by
  obtain ⟨hl1, hl2⟩ := hl
  obtain ⟨hc1, hc2⟩ := hc
  generalize hV : atm s line col = V
  have HV := Lib.hid hV
  clear hV
  have hll : (lns s).length ≤ s.size + 1 := by rw [lns_len]; have := lfs_le s s.size; omega
  have hl0 : 0 < (lns s).length := by rw [lns_len]; omega
  go_enter Tryd.func18, Tryd.ntmps18
  go_wp2_with fail
  refine (lines_any s _ hs).mono ?_
  rintro e w1 ⟨v, rfl, hown, hb⟩
  obtain ⟨g, cap, rfl, hg1, hg2, hcap, hcm, hcell⟩ := spans_cell hown hl0
  generalize hN : (lns s).length = N at *
  have HN := Lib.hid hN
  clear hN
  have HC := Lib.hid hcell
  clear hcell
  clear hown
  unfold maxLen at hcm
  by_cases h1 : line < 1
  · go_wp2
    go_ret2
    have := HV.out
    unfold atm at this
    rw [if_pos (.inl h1)] at this
    subst this
    exact ⟨rfl, hb⟩
  · by_cases h2 : (N : Int) < line
    · go_wp2
      go_ret2
      have := HV.out
      unfold atm at this
      rw [HN.out, if_pos (.inr (.inl h2))] at this
      subst this
      exact ⟨rfl, hb⟩
    · by_cases h3 : col < 1
      · go_wp2
        go_ret2
        have := HV.out
        unfold atm at this
        rw [if_pos (.inr (.inr h3))] at this
        subst this
        exact ⟨rfl, hb⟩
      · have g1 : 1 ≤ line := by omega
        have g2 : line ≤ (N : Int) := by omega
        have g3 : 1 ≤ col := by omega
        clear h1 h2 h3
        obtain ⟨⟨f, t⟩, hft⟩ : ∃ x, (lns s)[line.toNat - 1]? = some x := ⟨_, List.getElem?_eq_getElem (by rw [HN.out]; omega)⟩
        obtain ⟨k1, k2⟩ := HC.out _ f t hft
        rw [Nat.mul_comm 2] at k1 k2
        obtain ⟨e1, e2, _, e4⟩ := lns_entry s _ f t hft
        have e4 : t = s.size ∨ byt s (t - 1) < 128 := by
          rcases e4 with ⟨_, _, h, _⟩ | ⟨_, h, _⟩
          · right; omega
          · left; exact h
        have E4 := Lib.hid e4
        clear e4
        have hat : atm s line col = atw (walkTo s t (col.toNat - 1) f) := by
          unfold atm
          rw [HN.out, if_neg (by omega), List.getD_eq_getElem?_getD, show (line - 1).toNat = line.toNat - 1 by omega, hft]
          simp only [Option.getD_some]
          rw [show (col - 1).toNat = col.toNat - 1 by omega]
        have HAT := Lib.hid (HV.out.symm.trans hat)
        clear hat hft
        obtain ⟨c, hcc⟩ : ∃ c, col.toNat - 1 = c := ⟨_, rfl⟩
        have hcol : col = (c : Int) + 1 := by omega
        rw [hcc] at HAT
        clear hcc
        generalize hR : walkTo s t c f = R at HAT
        have HR := Lib.hid hR
        clear hR
        have hcc : (c : Int) ≤ 9223372036854775806 := by omega
        have HCOL := Lib.hid hcol
        clear hcol
        go_wp2_with fail
        go_loopw [10] (fun kk wr => ∃ (pos k : Nat), kk = .int .i64 ((1 + k : Nat) : Int) ∧ wr.heap[w1.heap.size + 1]? = some (.stringIter (s.extract f t) pos) ∧ Below w1.heap.size w1 wr ∧
            wr.cell? ⟨w1.heap.size, 0, none⟩ = some (.int .i64 f) ∧ wr.cell? ⟨w1.heap.size, 1, none⟩ = some (.int .i64 t) ∧ k ≤ c ∧ f + pos ≤ t ∧ walkTo s t (c - k) (f + pos) = R)
          (fun _ wr => s.size - wr.iterPos (w1.heap.size + 1))
        case atStart =>
          refine ⟨0, 0, rfl, ?_, ((Below.refl _ _).alloc (Nat.le_refl _) _).alloc (by rw [World.size_alloc]; omega) _, ?_, ?_, by omega, by omega, HR.out⟩
          · have := World.iter_heap (w1.alloc (.cells #[.int .i64 f, .int .i64 t] 31)) (s.extract f t) 0
            simpa using this
          · rw [iter_new_cell]; rfl
          · rw [iter_new_cell]; rfl
        case round =>
          obtain ⟨pos, k, rfl, hit, hbw, c0, c1, hk, hpt, hv⟩ := hrel
          have hlt : w1.heap.size + 1 < wr.heap.size := (Array.getElem?_eq_some_iff.1 hit).1
          have hez : (s.extract f t).size = t - f := by rw [ByteArray.size_extract]; omega
          have HVl := Lib.hid hv
          clear hv
          by_cases hp : f + pos < t
          · have hnx : ∀ ty, (Instr.next (.pointer (some ⟨w1.heap.size + 1, 0, none⟩)) true ty).run Tryd.prog wr = _ := fun ty => Lib.run_next_any_at wr (w1.heap.size + 1) (s.extract f t) pos ty hit (by omega)
            have hwle := wd_le (s.extract f t) pos (by omega)
            have hdc : Utf8.decode (s.extract f t) pos = Utf8.decode s (f + pos) := dec_cut s _ _ _ e2 E4.out hp
            have hw1 : wd (s.extract f t) pos = wd s (f + pos) := by unfold wd; rw [hdc]
            rw [hw1, hez] at hwle
            rw [hdc] at hnx
            have hwp := wd_pos s (f + pos)
            have hit2 := Lib.iterAt_heap wr (w1.heap.size + 1) (s.extract f t) pos (pos + (Utf8.decode s (f + pos)).2) hit
            have hb2 := Lib.below_iterAt hbw (k := w1.heap.size + 1) (by omega) (s.extract f t) (pos + (Utf8.decode s (f + pos)).2)
            have c0' := (iterAt_cell wr (w1.heap.size + 1) (s.extract f t) (pos + (Utf8.decode s (f + pos)).2) (b := w1.heap.size) (o := 0) (by omega)).trans c0
            have c1' := (iterAt_cell wr (w1.heap.size + 1) (s.extract f t) (pos + (Utf8.decode s (f + pos)).2) (b := w1.heap.size) (o := 1) (by omega)).trans c1
            clear hdc hw1 hez
            have hdl := decode_le s (f + pos)
            by_cases hkc : k = c
            · have hr := HVl.out
              rw [hkc, Nat.sub_self] at hr
              have HR2 : Hid (R = some (f + pos)) := Lib.hid hr.symm
              clear hr
              have hbl : ((1 : Int) + (k : Int) == col) = true := by rw [HCOL.out]; simp; omega
              clear hkc
              go_wp2
              go_ret2
              have := HAT.out
              rw [HR2.out] at this
              subst this
              exact ⟨rfl, hb.trans (hb2.mono hb.size)⟩
            · have hr := HVl.out
              obtain ⟨d, hd⟩ : ∃ d, c - k = d + 1 := ⟨c - k - 1, by omega⟩
              rw [hd, walkTo, if_pos hp] at hr
              have HR2 : Hid (walkTo s t (c - (k + 1)) (f + (pos + (Utf8.decode s (f + pos)).2)) = R) := Lib.hid (by rw [← hr, show c - (k + 1) = d by omega, ← Nat.add_assoc]; rfl)
              clear hr hd
              have hbl : ((1 : Int) + (k : Int) == col) = false := by rw [HCOL.out]; simp; omega
              go_wp2
              go_roundw
              case rel => exact ⟨pos + (Utf8.decode s (f + pos)).2, k + 1, by go_num, hit2, hb2, c0', c1', by omega, by unfold wd at hwle; omega, HR2.out⟩
              case measure => simp only [World.iterPos, hit2, hit]; unfold wd at hwp hwle; omega
          · have hnx : ∀ ty, (Instr.next (.pointer (some ⟨w1.heap.size + 1, 0, none⟩)) true ty).run Tryd.prog wr = _ := fun ty => Lib.run_next_end_at wr (w1.heap.size + 1) (s.extract f t) pos ty hit (by omega)
            clear hez
            by_cases hkc : k = c
            · have hr := HVl.out
              rw [hkc, Nat.sub_self] at hr
              have HR2 : Hid (R = some t) := Lib.hid (by rw [← hr, show f + pos = t by omega]; rfl)
              clear hr
              have hbl : ((1 : Int) + (k : Int) == col) = true := by rw [HCOL.out]; simp; omega
              clear hkc
              go_wp2
              go_ret2
              have := HAT.out
              rw [HR2.out] at this
              subst this
              exact ⟨rfl, hb.trans (hbw.mono hb.size)⟩
            · have hr := HVl.out
              obtain ⟨d, hd⟩ : ∃ d, c - k = d + 1 := ⟨c - k - 1, by omega⟩
              rw [hd, walkTo, if_neg hp] at hr
              have HR2 : Hid (R = none) := Lib.hid hr.symm
              clear hr hd
              have hbl : ((1 : Int) + (k : Int) == col) = false := by rw [HCOL.out]; simp; omega
              go_wp2
              go_ret2
              have := HAT.out
              rw [HR2.out] at this
              subst this
              exact ⟨rfl, hb.trans (hbw.mono hb.size)⟩
end Go.Proofs.YtmecolgceeegpaaDoor
