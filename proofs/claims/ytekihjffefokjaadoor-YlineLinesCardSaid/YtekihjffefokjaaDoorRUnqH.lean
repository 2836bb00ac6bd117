/-
  WALKS: the document's hex, utf.
-/
import Derived.Test.YtekihjffefokjaaDoorUnqE
import Derived.Test.YtekihjffefokjaaDoorUnqC
namespace Go.Proofs.YtekihjffefokjaaDoor
open Go.RowKit

/-- j digits from p on, behind acc -/
def hexGo (s : ByteArray) : Nat → Nat → Nat → Option Nat
  | 0, _, acc => some acc
  | j + 1, p, acc => match hexv (byt s p) with
    | none => none
    | some d => hexGo s j (p + 1) (16 * acc + d)
theorem hexGo_four (s : ByteArray) (p : Nat) : hexGo s 4 p 0 = hex4 (byt s p) (byt s (p + 1)) (byt s (p + 2)) (byt s (p + 3)) := by
  unfold hex4
  simp only [hexGo]
  cases hexv (byt s p) with
  | none => rfl
  | some x =>
    simp only
    cases hexv (byt s (p + 1)) with
    | none => rfl
    | some y =>
      simp only
      rw [show p + 1 + 1 = p + 2 by omega]
      cases hexv (byt s (p + 2)) with
      | none => rfl
      | some z =>
        simp only
        rw [show p + 2 + 1 = p + 3 by omega]
        cases hexv (byt s (p + 3)) with
        | none => rfl
        | some u => simp only [Option.some.injEq]; omega
def hexAt (s : ByteArray) (p : Nat) : Option Nat := if p + 4 ≤ s.size then hexGo s 4 p 0 else none
def hexZ (o : Option Nat) : Int := match o with | none => -1 | some n => (n : Int)
theorem uni_hex (s : ByteArray) (p : Nat) (_ : p + 1 < s.size) (h2 : byt s p = 92) (h3 : byt s (p + 1) = 117) : uni s p = hexAt s (p + 2) := by
  unfold uni hexAt
  by_cases h : p + 6 ≤ s.size
  · rw [if_pos ⟨h, h2, h3⟩, if_pos (by omega), hexGo_four]
  · rw [if_neg (fun hh => h hh.1), if_neg (by omega)]
theorem hexAt_lt {s : ByteArray} {p n : Nat} (h : hexAt s p = some n) : n < 65536 := by
  unfold hexAt at h
  split at h
  · rw [hexGo_four] at h; exact hex4_lt h
  · cases h
def HexPost (o : Option Nat) (w : World) (e : Ending) (w' : World) : Prop := e = .returned (.int .i64 (hexZ o)) ∧ w = w'
def accBd (k acc : Nat) : Prop := k = 0 ∧ acc = 0 ∨ k = 1 ∧ acc < 16 ∨ k = 2 ∧ acc < 256 ∨ k = 3 ∧ acc < 4096 ∨ k = 4 ∧ acc < 65536
theorem accBd_next {k acc d : Nat} (hk : k < 4) (h : accBd k acc) (hd : d < 16) : accBd (k + 1) (16 * acc + d) := by unfold accBd at *; omega

set_option maxHeartbeats 1000000 in
set_option maxRecDepth 1000000 in
theorem rhex_any (s : ByteArray) (p : Nat) (w : World) (hs : s.size ≤ 1099511627776) (hp : p ≤ 1099511627800) :
    Calls Tryd.prog 139 #[.string s, .int .i64 (p : Int)] w (HexPost (hexAt s p) w) := by
  by_cases h4 : p + 4 ≤ s.size
  · have HM : Hq (hexAt s p = hexGo s 4 p 0) := hq (by unfold hexAt; rw [if_pos h4])
    generalize hexAt s p = R at *
    have h4' : ¬ (s.size : Int) - 4 < (p : Int) := by omega
    go_enter Tryd.func139, Tryd.ntmps139
    go_wp2_with fail
    go_loop [5, 6] (fun n i => ∃ (k acc : Nat), k ≤ 4 ∧ n = .int .i64 (acc : Int) ∧ i = .int .i64 ((p : Int) + (k : Int)) ∧ Hq (R = hexGo s (4 - k) (p + k) acc) ∧ Hq (accBd k acc)) (fun _ i => (p + 4 - (intOf i).toNat))
    case atStart => exact ⟨0, 0, by omega, rfl, int_eq (by omega), HM, hq (.inl ⟨rfl, rfl⟩)⟩
    case round =>
      obtain ⟨k, acc, hk, rfl, rfl, hR, hbd⟩ := hrel
      clear HM
      have hacc : acc ≤ 65535 := by have := hbd.o; unfold accBd at this; omega
      by_cases hk4 : k < 4
      · have y0 : ((s[p + k]'(by omega)).toNat : Int) = (byt s (p + k) : Int) := by rw [byt_eq s (p + k) (by omega)]
        have hz : ((p : Int) + (k : Int)).toNat = p + k := by omega
        obtain ⟨j, hj⟩ : ∃ j, 4 - k = j + 1 := ⟨3 - k, by omega⟩
        have HR2 : Hq (R = match hexv (byt s (p + k)) with | none => none | some d => hexGo s j (p + k + 1) (16 * acc + d)) := hq (by
          rw [hR.o, hj, hexGo])
        have HJ : Hq (j = 4 - (k + 1)) := hq (by omega)
        have hb := byt_lt s (p + k)
        generalize byt s (p + k) = c at *
        clear hR hj
        have h1 : (p : Int) + (k : Int) < (p : Int) + 4 := by omega
        cases hv : hexv c with
        | none =>
          have HN : Hq (R = none) := hq (by rw [HR2.o, hv])
          have hc : c < 48 ∨ (57 < c ∧ c < 65) ∨ (70 < c ∧ c < 97) ∨ 102 < c := by
            unfold hexv at hv
            split at hv
            · cases hv
            · split at hv
              · cases hv
              · split at hv
                · cases hv
                · omega
          clear hv HR2
          rcases hc with a1 | ⟨a1, a2⟩ | ⟨a1, a2⟩ | a1
          · have g1 : ¬ 48 ≤ c := by omega
            have g2 : ¬ 97 ≤ c := by omega
            have g3 : ¬ 65 ≤ c := by omega
            go_wp2_with fail
            go_ret
            exact ⟨by rw [HN.o]; rfl, rfl⟩
          · have g1 : 48 ≤ c := by omega
            have g1' : ¬ c ≤ 57 := by omega
            have g2 : ¬ 97 ≤ c := by omega
            have g3 : ¬ 65 ≤ c := by omega
            go_wp2_with fail
            go_ret
            exact ⟨by rw [HN.o]; rfl, rfl⟩
          · have g1 : 48 ≤ c := by omega
            have g1' : ¬ c ≤ 57 := by omega
            have g2 : ¬ 97 ≤ c := by omega
            have g3 : 65 ≤ c := by omega
            have g3' : ¬ c ≤ 70 := by omega
            go_wp2_with fail
            go_ret
            exact ⟨by rw [HN.o]; rfl, rfl⟩
          · have g1 : 48 ≤ c := by omega
            have g1' : ¬ c ≤ 57 := by omega
            have g2 : 97 ≤ c := by omega
            have g2' : ¬ c ≤ 102 := by omega
            have g3 : 65 ≤ c := by omega
            have g3' : ¬ c ≤ 70 := by omega
            go_wp2_with fail
            go_ret
            exact ⟨by rw [HN.o]; rfl, rfl⟩
        | some d =>
          have hd := (hexv_lt hv).1
          have HN : Hq (R = hexGo s (4 - (k + 1)) (p + (k + 1)) (16 * acc + d)) := hq (by rw [HR2.o, hv, ← HJ.o]; rfl)
          have HB := hq (accBd_next hk4 hbd.o hd)
          have hc : (48 ≤ c ∧ c ≤ 57 ∧ d = c - 48) ∨ (97 ≤ c ∧ c ≤ 102 ∧ d = c - 87) ∨ (65 ≤ c ∧ c ≤ 70 ∧ d = c - 55) := by
            unfold hexv at hv
            split at hv
            · injection hv with hv; omega
            · split at hv
              · injection hv with hv; omega
              · split at hv
                · injection hv with hv; omega
                · cases hv
          clear hv HR2
          rcases hc with ⟨a1, a2, a3⟩ | ⟨a1, a2, a3⟩ | ⟨a1, a2, a3⟩
          · have A3 := hq a3
            clear a3
            go_wp2_with fail
            go_round
            case rel => exact ⟨k + 1, 16 * acc + d, by omega, int_eq (by have := A3.o; omega), int_eq (by omega), HN, HB⟩
            case measure => simp [intOf]; omega
          · have A3 := hq a3
            have g1' : ¬ c ≤ 57 := by omega
            have g1 : 48 ≤ c := by omega
            clear a3
            go_wp2_with fail
            go_round
            case rel => exact ⟨k + 1, 16 * acc + d, by omega, int_eq (by have := A3.o; omega), int_eq (by omega), HN, HB⟩
            case measure => simp [intOf]; omega
          · have A3 := hq a3
            have g1' : ¬ c ≤ 57 := by omega
            have g1 : 48 ≤ c := by omega
            have g2 : ¬ 97 ≤ c := by omega
            clear a3
            go_wp2_with fail
            go_round
            case rel => exact ⟨k + 1, 16 * acc + d, by omega, int_eq (by have := A3.o; omega), int_eq (by omega), HN, HB⟩
            case measure => simp [intOf]; omega
      · obtain rfl : k = 4 := by omega
        have HN : Hq (R = some acc) := hq (by rw [hR.o]; rfl)
        clear hR
        have h1 : ¬ (p : Int) + 4 < (p : Int) + 4 := by omega
        go_wp2_with fail
        go_ret
        exact ⟨by rw [HN.o]; rfl, rfl⟩
  · have HM : Hq (hexAt s p = none) := hq (by unfold hexAt; rw [if_neg h4])
    generalize hexAt s p = R at *
    have h4' : (s.size : Int) - 4 < (p : Int) := by omega
    clear h4
    go_enter Tryd.func139, Tryd.ntmps139
    go_wp2_with fail
    go_ret
    exact ⟨by rw [HM.o]; rfl, rfl⟩

set_option maxHeartbeats 400000 in
theorem rutf_any (n : Int) (w : World) (h0 : 0 ≤ n) (h1 : n ≤ 1114111) :
    Calls Tryd.prog 140 #[.int .i64 n] w fun e w' => e = .returned (.string (Utf8.encode n)) ∧ w = w' := by
  go_enter Tryd.func140, Tryd.ntmps140
  go_wp2_with fail
  go_ret
  exact ⟨rfl, rfl⟩
end Go.Proofs.YtekihjffefokjaaDoor
