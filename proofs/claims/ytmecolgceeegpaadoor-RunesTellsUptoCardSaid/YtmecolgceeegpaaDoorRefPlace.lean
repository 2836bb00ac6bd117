/-
  WALKS: the document's own answers of layer 1: Place, At.
-/
import Derived.Test.YtmecolgceeegpaaDoorRefLines
namespace Go.Proofs.YtmecolgceeegpaaDoor
open Go.RowKit

theorem lfs_mono (s : ByteArray) (p k : Nat) : lfs s p ≤ lfs s (p + k) := by
  induction k with
  | zero => exact Nat.le_refl _
  | succ k ih => rw [← Nat.add_assoc, lfs_succ]; split <;> omega
theorem lfs_mono' (s : ByteArray) {p q : Nat} (h : p ≤ q) : lfs s p ≤ lfs s q := by
  have := lfs_mono s p (q - p)
  rwa [show p + (q - p) = q by omega] at this
/-- the line whose end is not ahead of a byte is not the byte's -/
theorem line_le (s : ByteArray) (k f t p : Nat) (h : (lns s)[k]? = some (f, t)) (hk : k + 1 < (lns s).length) : t ≤ p ↔ k + 1 ≤ lfs s p := by
  obtain ⟨e1, e2, e3, e4⟩ := lns_entry s k f t h
  rcases e4 with ⟨_, hft, _, a, _⟩ | ⟨x, _⟩
  · constructor
    · intro hp; have := lfs_mono' s hp; omega
    · intro hl
      by_cases hp : t ≤ p
      · exact hp
      · have := e3 (t - 1) (by omega) (by omega)
        have := lfs_mono' s (show p ≤ t - 1 by omega)
        omega
  · omega
theorem lfs_lt (s : ByteArray) (p : Nat) (h : p ≤ s.size) : lfs s p < (lns s).length := by
  rw [lns_len]; have := lfs_mono' s h; omega
theorem cols_stop (s : ByteArray) (q f p : Nat) (h : q ≤ p) : cols s q f p = 0 := by
  cases f with
  | zero => rfl
  | succ f => rw [cols_succ, if_neg (by have := wd_pos s p; omega)]

set_option maxHeartbeats 1000000 in
set_option maxRecDepth 1000000 in
theorem rplace_any (s : ByteArray) (a : Int) (w : World) (hs : s.size ≤ 1099511627776) (ha : -9223372036854775808 ≤ a ∧ a ≤ 9223372036854775807) :
    Calls Tryd.prog 17 #[.string s, .int .i64 a] w fun e w' => e = .returned (.tuple #[.int .i64 (plc s a).1, .int .i64 (plc s a).2.1, .bool (plc s a).2.2]) ∧ Below w.heap.size w w' := by
  have HS : Hq (s.size ≤ maxLen) := hq (by unfold maxLen; omega)
  obtain ⟨ha1, ha2⟩ := ha
  generalize hV : plc s a = V
  have HV := hq hV
  clear hV
  by_cases h0 : a < 0
  · go_enter Tryd.func17, Tryd.ntmps17
    go_wp2_with fail
    go_ret3
    have := HV.o
    unfold plc at this
    rw [if_pos (.inl h0)] at this
    subst this
    exact ⟨rfl, Below.refl _ _⟩
  · by_cases h1 : (s.size : Int) < a
    · go_enter Tryd.func17, Tryd.ntmps17
      go_wp2_with fail
      go_ret3
      have := HV.o
      unfold plc at this
      rw [if_pos (.inr h1)] at this
      subst this
      exact ⟨rfl, Below.refl _ _⟩
    · obtain ⟨n, rfl⟩ := Int.eq_ofNat_of_zero_le (by omega : 0 ≤ a)
      have hns : n ≤ s.size := by omega
      have hr : V = (1 + (lfs s n : Int), 1 + (cols s n s.size (lst s n) : Int), true) := by
        rw [← HV.o]; unfold plc; rw [if_neg (by omega)]; rfl
      have HR := hq hr
      clear hr HV
      have hlf := lfs_le s n
      have hll := lst_le s n
      have hlN := lfs_lt s n hns
      have hlz : (lns s).length ≤ s.size + 1 := by rw [lns_len]; have := lfs_le s s.size; omega
      go_enter Tryd.func17, Tryd.ntmps17
      go_wp2_with fail
      refine (rlines_any s _ hs).mono ?_
      rintro e w1 ⟨v, rfl, hown, hb⟩
      obtain ⟨g, cap, rfl, hg1, hcap, hcm, hcell⟩ := SpansAt.of hown (by omega)
      have HL := hq (fun k f t (h : (lns s)[k]? = some (f, t)) (hk : k + 1 < (lns s).length) => line_le s k f t n h hk)
      have HA := hq (lns_at s n hns)
      generalize hN : (lns s).length = N at *
      have HN := hq hN
      clear hN
      have HC := hq hcell
      clear hcell hown
      unfold maxLen at hcm
      generalize lfs s n = L at *
      go_wp2
      go_loop [8] (fun kk => ∃ k : Nat, kk = .int .i64 k ∧ k ≤ L) (fun kk => N - (intOf kk).toNat)
      case atStart => exact ⟨0, rfl, by omega⟩
      case round =>
        obtain ⟨k, rfl, hk⟩ := hrel
        obtain ⟨⟨f, t⟩, hft⟩ : ∃ x, (lns s)[k]? = some x := ⟨_, List.getElem?_eq_getElem (by rw [HN.o]; omega)⟩
        obtain ⟨c1, c2⟩ := HC.o k f t hft
        have hor : (k + 1 < N ∧ t ≤ n ∧ k + 1 ≤ L) ∨ (k = L ∧ k + 1 < N ∧ n < t) ∨ (k = L ∧ ¬ k + 1 < N) := by
          by_cases hkN : k + 1 < N
          · have hle := HL.o k f t hft hkN
            omega
          · omega
        have hf : Hq (k = L → f = lst s n) := hq (fun h => by
          obtain ⟨t', ht', _⟩ := HA.o
          rw [← h, hft] at ht'
          simpa using congrArg Prod.fst (Option.some.inj ht'))
        clear hft
        rcases hor with ⟨g1, g2, g3⟩ | ⟨rfl, g1, g2⟩ | ⟨rfl, g1⟩
        · go_wp2
          go_round
          case rel => exact ⟨k + 1, by go_num, by omega⟩
          case measure => simp [intOf]; omega
        all_goals
          have hf0 := hf.o rfl
          subst hf0
          go_wp2
          go_loop [9, 10] (fun c i => ∃ (p fu m : Nat), c = .int .i64 ((1 + m : Nat) : Int) ∧ i = .int .i64 p ∧ Hq (m + cols s n fu p = cols s n s.size (lst s n)) ∧ s.size ≤ p + fu ∧ p ≤ s.size ∧ m ≤ p) (fun _ i => s.size - (intOf i).toNat)
          case atStart => exact ⟨lst s n, s.size, 0, rfl, rfl, hq (by omega), by omega, by omega, by omega⟩
          case round =>
            obtain ⟨p, fu, m, rfl, rfl, hm, hfu, hps, hmp⟩ := hrel
            by_cases hpn : p < n
            · obtain ⟨fu, rfl⟩ : ∃ g, fu = g + 1 := ⟨fu - 1, by omega⟩
              have hp : p < s.size := by omega
              have hwp := wd_pos s p
              have hwl := wd_le s p hp
              have HX := hq (nxt_in s p hp)
              have HCo : Hq (cols s n (fu + 1) p = if p < s.size ∧ p + (Utf8.decode s p).2 ≤ n then 1 + cols s n fu (p + (Utf8.decode s p).2) else 0) := hq (cols_succ s n fu p)
              unfold wd at hwp hwl
              generalize (Utf8.decode s p).1 = R at *
              generalize (Utf8.decode s p).2 = K at *
              go_wp2_with fail
              refine (rnext_any s p _ HS.o (by omega)).mono ?_
              rw [HX.o]
              rintro e w' ⟨rfl, rfl⟩
              by_cases hkn : p + K ≤ n
              · go_wp2
                go_round
                case rel => exact ⟨p + K, fu, m + 1, by go_num, by go_num, hq (by have := HCo.o; rw [if_pos ⟨hp, hkn⟩] at this; have := hm.o; omega), by omega, by omega, by omega⟩
                case measure => simp [intOf]; omega
              · go_wp2
                go_round
                case rel => exact ⟨p + K, fu, m, rfl, by go_num, hq (by have := HCo.o; rw [if_neg (by omega)] at this; have := hm.o; rw [cols_stop s n fu _ (by omega)]; omega), by omega, by omega, by omega⟩
                case measure => simp [intOf]; omega
            · go_wp2
              go_ret3
              rw [HR.o]
              refine ⟨ret_three (int_eq (by omega)) (int_eq ?_) rfl, hb⟩
              have := hm.o
              rw [cols_stop s n fu p (by omega)] at this
              simp only
              omega
end Go.Proofs.YtmecolgceeegpaaDoor
