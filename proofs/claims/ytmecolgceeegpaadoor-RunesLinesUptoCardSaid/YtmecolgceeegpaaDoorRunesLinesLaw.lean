/-
  THE WALK OF THE LAW RunesLines: lines one behind another are the text.
-/
import Derived.Test.YtmecolgceeegpaaDoorRunesSmall
import Derived.BigQuiet
import Derived.Deep.QuietTactic
import Derived.WalkSmall
namespace Go.Proofs.YtmecolgceeegpaaDoor
open Go.RowKit

def Hq (p : Prop) : Prop := True → p
theorem Hq.o {p : Prop} (h : Hq p) : p := h trivial
theorem hq {p : Prop} (h : p) : Hq p := fun _ => h

theorem lns_lf (s : ByteArray) (i f t k : Nat) (h : (lns s)[i]? = some (f, t)) (h1 : f ≤ k) (h2 : k < t) : byt s k = 10 ↔ (k + 1 = t ∧ i + 1 < (lns s).length) := by
  obtain ⟨e1, e2, e3, e4⟩ := lns_entry s i f t h
  have a := e3 k h1 h2
  have hs := lfs_succ s k
  constructor
  · intro hb
    rw [if_pos hb] at hs
    by_cases hk : k + 1 < t
    · have b := e3 (k + 1) (by omega) hk
      omega
    · have hkt : k + 1 = t := by omega
      rw [hkt] at hs
      rcases e4 with ⟨x, _⟩ | ⟨_, _, x, _⟩
      · exact ⟨hkt, x⟩
      · omega
  · rintro ⟨hk, hi⟩
    rcases e4 with ⟨_, _, x, _⟩ | ⟨x, _⟩
    · rw [← hk] at x
      simpa using x
    · omega
theorem lns_next (s : ByteArray) (i f t : Nat) (h : (lns s)[i]? = some (f, t)) (hi : i + 1 < (lns s).length) : ∃ t', (lns s)[i + 1]? = some (t, t') := by
  obtain ⟨e1, e2, e3, e4⟩ := lns_entry s i f t h
  rcases e4 with ⟨_, _, _, a, b⟩ | ⟨x, _⟩
  · obtain ⟨t', ht', _⟩ := lns_at s t e2
    rw [a, b] at ht'
    exact ⟨t', ht'⟩
  · omega
theorem lns_last (s : ByteArray) (i f t : Nat) (h : (lns s)[i]? = some (f, t)) (hi : i + 1 = (lns s).length) : t = s.size := by
  obtain ⟨e1, e2, e3, e4⟩ := lns_entry s i f t h
  rcases e4 with ⟨x, _⟩ | ⟨_, x, _⟩
  · omega
  · exact x
theorem lns_first (s : ByteArray) : ∃ t, (lns s)[0]? = some (0, t) := by
  obtain ⟨t, h, _⟩ := lns_at s 0 (by omega)
  exact ⟨t, h⟩

set_option maxHeartbeats 1000000 in
set_option maxRecDepth 1000000 in
theorem lineslaw_any (s : ByteArray) (w : World) (hT : tabs w) (hs : s.size ≤ 1048576) :
    Calls Tryd.prog 5 #[.string s] w fun e w' => e = .returned (.bool true) ∧ Below w.heap.size w w' := by
  have HT := hq hT
  clear hT
  go_enter Tryd.func5, Tryd.ntmps5
  go_wp2_with fail
  refine (small_any _ HT.o).mono ?_
  rintro e w1 ⟨rfl, hb1⟩
  go_wp2_with fail
  refine (lines_any s _ (by omega)).mono ?_
  have hll : (lns s).length ≤ s.size + 1 := by rw [lns_len]; have := lfs_le s s.size; omega
  have hl0 : 0 < (lns s).length := by rw [lns_len]; omega
  rintro e w2 ⟨v, rfl, hown, hb2⟩
  obtain ⟨g, cap, rfl, hg1, hg2, hcap, hcm, hcell⟩ := spans_cell hown hl0
  generalize hN : (lns s).length = N at *
  have HN := hq hN
  clear hN
  have HC := hq hcell
  clear hcell hown
  unfold maxLen at hcm
  have hb12 := hb1.trans (hb2.mono hb1.size)
  go_wp2
  go_loopw [5, 6] (fun a i wr => ∃ (n : Nat) (q : Nat), i = .int .i64 n ∧ a = .int .i64 q ∧ n ≤ N ∧ Below w2.heap.size w2 wr ∧ Hq (n < N → ∃ t, (lns s)[n]? = some (q, t)) ∧ Hq (n = N → q = s.size)) (fun _ i _ => N - (intOf i).toNat)
  case atStart => exact ⟨0, 0, rfl, rfl, by omega, Below.refl _ _, hq (fun _ => lns_first s), hq (fun h => by omega)⟩
  case round =>
    obtain ⟨n, q, rfl, rfl, hn, hbr, HQ1, HQ2⟩ := hrel
    by_cases hlt : n < N
    · obtain ⟨t, hft⟩ := HQ1.o hlt
      obtain ⟨k1, k2⟩ := HC.o n q t hft
      rw [Nat.mul_comm 2 n] at k1 k2
      obtain ⟨e1, e2, _, _⟩ := lns_entry s _ q t hft
      have HFT := hq hft
      clear hft
      have c1 := (hbr.cell (p := ⟨g, n * 2, none⟩) hg2).trans k1
      have c2 := (hbr.cell (p := ⟨g, n * 2 + 1, none⟩) hg2).trans k2
      have g1 : ((q : Int) != (q : Int)) = false := by simp
      go_wp2
      obtain ⟨wo, rfl⟩ : ∃ wo : World, wo = wr := ⟨_, rfl⟩
      go_loopw [7] (fun k wr => ∃ (p : Nat), k = .int .i64 p ∧ q ≤ p ∧ p ≤ t ∧ Below w2.heap.size w2 wr) (fun k _ => t - (intOf k).toNat)
      case atStart => exact ⟨q, rfl, by omega, by omega, hbr⟩
      case round =>
        obtain ⟨p, rfl, hp1, hp2, hbi⟩ := hrel
        have c3 := (hbi.cell (p := ⟨g, n * 2 + 1, none⟩) hg2).trans k2
        have c4 := (hbi.cell (p := ⟨g, n * 2, none⟩) hg2).trans k1
        by_cases hpt : p < t
        · have hlf := lns_lf s n q t p HFT.o hp1 hpt
          rw [HN.o] at hlf
          rw [byt_eq s p (by omega)] at hlf
          have hpz : (p : Int) < (t : Int) := by omega
          have hps : p < s.size := by omega
          have hpsz : (p : Int) < (s.size : Int) := by omega
          have hnz : (n : Int) < (N : Int) := by omega
          have HLF := hq hlf
          clear hlf
          by_cases hlast : p + 1 = t
          · have gd : ((p : Int) == (t : Int) - 1) = true := by simp; omega
            by_cases hnl : n + 1 < N
            · have hb : (((s[p]'hps).toNat : Int) == 10) = true := by have := HLF.o.2 ⟨hlast, hnl⟩; simp; omega
              have hd : decide ((n : Int) < (N : Int) - 1) = true := by simp; omega
              clear hlast
              go_wp2
              go_quiet (fail)
              go_wp2
              go_roundw
              case rel => exact ⟨p + 1, by go_num, by omega, by omega, below_drewN hbi _⟩
              case measure => simp [intOf]; omega
            · have hb : (((s[p]'hps).toNat : Int) == 10) = false := by
                have := HLF.o
                simp
                intro h
                have := this.1 (by omega)
                omega
              have hd : decide ((n : Int) < (N : Int) - 1) = false := by simp; omega
              clear hlast
              go_wp2
              go_quiet (fail)
              go_wp2
              go_roundw
              case rel => exact ⟨p + 1, by go_num, by omega, by omega, below_drewN hbi _⟩
              case measure => simp [intOf]; omega
          · have gd : ((p : Int) == (t : Int) - 1) = false := by simp; omega
            have hb : (((s[p]'hps).toNat : Int) == 10) = false := by
              have := HLF.o
              simp
              intro h
              have := this.1 (by omega)
              omega
            clear hlast
            go_wp2
            go_quiet (fail)
            go_wp2
            go_roundw
            case rel => exact ⟨p + 1, by go_num, by omega, by omega, below_drewN hbi _⟩
            case measure => simp [intOf]; omega
        · obtain rfl : p = t := by omega
          go_wp2
          go_roundw
          case rel => exact ⟨n + 1, p, by go_num, rfl, by omega, hbi, hq (fun h => lns_next s n q p HFT.o (by rw [HN.o]; exact h)), hq (fun h => lns_last s n q p HFT.o (by rw [HN.o]; exact h))⟩
          case measure => simp [intOf]; omega
    · have hnN : n = N := by omega
      have hq2 := HQ2.o hnN
      subst hq2
      have e1 : ((s.size : Int) == (s.size : Int)) = true := by simp
      go_wp2
      go_ret
      exact ⟨rfl, hb12.trans (hbr.mono hb12.size)⟩
end Go.Proofs.YtmecolgceeegpaaDoor
