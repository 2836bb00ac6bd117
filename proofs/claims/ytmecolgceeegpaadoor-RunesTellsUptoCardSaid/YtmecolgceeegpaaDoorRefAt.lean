/-
  WALKS: the document's own At; the law RunesPlaces.
-/
import Derived.Test.YtmecolgceeegpaaDoorRefPlace
namespace Go.Proofs.YtmecolgceeegpaaDoor
open Go.RowKit

set_option maxHeartbeats 1000000 in
set_option maxRecDepth 1000000 in
theorem rat_any (s : ByteArray) (line col : Int) (w : World) (hs : s.size ≤ 1099511627776) (hl : -9223372036854775808 ≤ line ∧ line ≤ 9223372036854775807) (hc : -9223372036854775808 ≤ col ∧ col ≤ 9223372036854775807) :
    Calls Tryd.prog 19 #[.string s, .int .i64 line, .int .i64 col] w fun e w' => e = .returned (.tuple #[.int .i64 (atm s line col).1, .bool (atm s line col).2]) ∧ Below w.heap.size w w' := by
  obtain ⟨hl1, hl2⟩ := hl
  obtain ⟨hc1, hc2⟩ := hc
  have HS : Hq (s.size ≤ maxLen) := hq (by unfold maxLen; omega)
  generalize hV : atm s line col = V
  have HV := hq hV
  clear hV
  have hll : (lns s).length ≤ s.size + 1 := by rw [lns_len]; have := lfs_le s s.size; omega
  have hl0 : 0 < (lns s).length := by rw [lns_len]; omega
  go_enter Tryd.func19, Tryd.ntmps19
  go_wp2_with fail
  refine (rlines_any s _ hs).mono ?_
  rintro e w1 ⟨v, rfl, hown, hb⟩
  obtain ⟨g, cap, rfl, hg1, hcap, hcm, hcell⟩ := SpansAt.of hown hl0
  generalize hN : (lns s).length = N at *
  have HN := hq hN
  clear hN
  have HC := hq hcell
  clear hcell hown
  unfold maxLen at hcm
  by_cases h1 : line < 1
  · go_wp2
    go_ret2
    have := HV.o
    unfold atm at this
    rw [if_pos (.inl h1)] at this
    subst this
    exact ⟨rfl, hb⟩
  · by_cases h2 : (N : Int) < line
    · go_wp2
      go_ret2
      have := HV.o
      unfold atm at this
      rw [HN.o, if_pos (.inr (.inl h2))] at this
      subst this
      exact ⟨rfl, hb⟩
    · by_cases h3 : col < 1
      · go_wp2
        go_ret2
        have := HV.o
        unfold atm at this
        rw [if_pos (.inr (.inr h3))] at this
        subst this
        exact ⟨rfl, hb⟩
      · have g1 : 1 ≤ line := by omega
        have g2 : line ≤ (N : Int) := by omega
        have g3 : 1 ≤ col := by omega
        clear h1 h2 h3
        obtain ⟨⟨f, t⟩, hft⟩ : ∃ x, (lns s)[line.toNat - 1]? = some x := ⟨_, List.getElem?_eq_getElem (by rw [HN.o]; omega)⟩
        obtain ⟨k1, k2⟩ := HC.o _ f t hft
        obtain ⟨e1, e2, _, e4⟩ := lns_entry s _ f t hft
        have e4 : t = s.size ∨ byt s (t - 1) < 128 := by
          rcases e4 with ⟨_, _, h, _⟩ | ⟨_, h, _⟩
          · right; omega
          · left; exact h
        have E4 := hq e4
        clear e4
        have hat : atm s line col = atw (walkTo s t (col.toNat - 1) f) := by
          unfold atm
          rw [HN.o, if_neg (by omega), List.getD_eq_getElem?_getD, show (line - 1).toNat = line.toNat - 1 by omega, hft]
          simp only [Option.getD_some]
          rw [show (col - 1).toNat = col.toNat - 1 by omega]
        have HAT := hq (HV.o.symm.trans hat)
        clear hat hft
        obtain ⟨c, hcc⟩ : ∃ c, col.toNat - 1 = c := ⟨_, rfl⟩
        have hcol : (c : Int) + 1 = col := by omega
        rw [hcc] at HAT
        clear hcc
        have hcc : (c : Int) ≤ 9223372036854775806 := by omega
        have HCOL := hq hcol
        clear hcol
        generalize hR : walkTo s t c f = R at HAT
        have HR := hq hR
        clear hR
        go_wp2
        go_loop [9, 10] (fun i cc => ∃ (p k : Nat), cc = .int .i64 ((1 + k : Nat) : Int) ∧ i = .int .i64 p ∧ k ≤ c ∧ p ≤ t ∧ Hq (walkTo s t (c - k) p = R)) (fun _ cc => c + 1 - (intOf cc).toNat)
        case atStart => exact ⟨f, 0, rfl, rfl, by omega, by omega, hq HR.o⟩
        case round =>
          obtain ⟨p, k, rfl, rfl, hk, hpt, hv⟩ := hrel
          by_cases hkc : k < c
          · have hcz : (1 : Int) + (k : Int) < col := by have := HCOL.o; omega
            obtain ⟨d, hd⟩ : ∃ d, c - k = d + 1 := ⟨c - k - 1, by omega⟩
            have hr := hv.o
            rw [hd, walkTo] at hr
            have HRr := hq hr
            clear hr
            by_cases hp : p < t
            · have hps : p < s.size := by omega
              have HX := hq (nxt_in s p hps)
              have hwp := wd_pos s p
              have hwl := wd_le s p hps
              have HWL : Hq (p + (Utf8.decode s p).2 ≤ t) := hq (by
                have := HRr.o
                exact walk_le s t _ E4.o e2 1 p (by simp [walkTo, hp, wd]) hpt)
              have HR2 : Hq (walkTo s t (c - (k + 1)) (p + (Utf8.decode s p).2) = R) := hq (by
                have := HRr.o
                rw [if_pos hp] at this
                rw [← this, show c - (k + 1) = d by omega]; rfl)
              clear HRr hd
              unfold wd at hwp hwl
              generalize (Utf8.decode s p).1 = RR at *
              generalize (Utf8.decode s p).2 = K at *
              have hkt := HWL.o
              go_wp2_with fail
              refine (rnext_any s p _ HS.o (by omega)).mono ?_
              rw [HX.o]
              rintro e w' ⟨rfl, rfl⟩
              go_wp2
              go_round
              case rel => exact ⟨p + K, k + 1, by go_num, by go_num, by omega, by omega, HR2⟩
              case measure => simp [intOf]; omega
            · have hr := HRr.o
              rw [if_neg hp] at hr
              have HR2 : Hq (R = none) := hq hr.symm
              clear hr hd HRr
              go_wp2
              go_ret2
              have := HAT.o
              rw [HR2.o] at this
              subst this
              exact ⟨rfl, hb⟩
          · have hcz : col ≤ (1 : Int) + (k : Int) := by have := HCOL.o; omega
            obtain rfl : k = c := by omega
            have hr := hv.o
            rw [Nat.sub_self] at hr
            have HR2 : Hq (R = some p) := hq hr.symm
            clear hr
            go_wp2
            go_ret2
            have := HAT.o
            rw [HR2.o] at this
            subst this
            exact ⟨rfl, hb⟩

set_option maxHeartbeats 1000000 in
set_option maxRecDepth 1000000 in
theorem places_any (s : ByteArray) (a line col : Int) (w : World) (hT : tabs w) (hs : s.size ≤ 1048576) (ha : -9223372036854775808 ≤ a ∧ a ≤ 9223372036854775807) (hl : -9223372036854775808 ≤ line ∧ line ≤ 9223372036854775807) (hc : -9223372036854775808 ≤ col ∧ col ≤ 9223372036854775807) :
    Calls Tryd.prog 4 #[.string s, .int .i64 a, .int .i64 line, .int .i64 col] w fun e w' => e = .returned (.bool true) ∧ Below w.heap.size w w' := by
  have HT := hq hT
  clear hT
  have HA := hq ha
  have HL := hq hl
  have HC := hq hc
  clear ha hl hc
  go_enter Tryd.func4, Tryd.ntmps4
  go_wp2_with fail
  refine (small_any _ HT.o).mono ?_
  rintro e w1 ⟨rfl, hb1⟩
  have HT1 := hq (tabs_grow HT.o hb1)
  generalize hP : plc s a = P
  go_wp2_with fail
  refine (place_any s a _ HT1.o (by omega) HA.o).mono ?_
  rw [hP]
  rintro e w2 ⟨rfl, hb2⟩
  have hb12 := hb1.trans (hb2.mono hb1.size)
  go_wp2_with fail
  refine (rplace_any s a _ (by omega) HA.o).mono ?_
  rw [hP]
  clear hP
  rintro e w3 ⟨rfl, hb3⟩
  have hb13 := hb12.trans (hb3.mono hb12.size)
  generalize hQ : atm s line col = Q
  go_wp2_with fail
  refine (at_any s line col _ (by omega) HL.o HC.o).mono ?_
  rw [hQ]
  rintro e w4 ⟨rfl, hb4⟩
  have hb14 := hb13.trans (hb4.mono hb13.size)
  go_wp2_with fail
  refine (rat_any s line col _ (by omega) HL.o HC.o).mono ?_
  rw [hQ]
  clear hQ
  rintro e w5 ⟨rfl, hb5⟩
  have hb15 := hb14.trans (hb5.mono hb14.size)
  obtain ⟨p1, p2, p3⟩ := P
  obtain ⟨q1, q2⟩ := Q
  have e1 : (p1 == p1) = true := by simp
  have e2 : (p2 == p2) = true := by simp
  have e3 : (q1 == q1) = true := by simp
  have e4 : (p3 == p3) = true := by simp
  have e5 : (q2 == q2) = true := by simp
  go_wp2
  go_ret
  exact ⟨rfl, hb15⟩
end Go.Proofs.YtmecolgceeegpaaDoor
