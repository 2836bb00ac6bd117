/-
  WALKS: quote.digit, quote.unicode.
-/
import Derived.Test.YtmomildkopainaaDoorUnqM
import Derived.Test.YtmomildkopainaaDoorMem
import Derived.Deep.DeepCutAuto
import Derived.Laws.Bits64b
namespace Go.Proofs.YtmomildkopainaaDoor
open Go.RowKit

def DigPost (o : Option Nat) (w : World) (e : Ending) (w' : World) : Prop := e = .returned (.tuple #[.int .i32 ((o.getD 0 : Nat) : Int), .bool o.isSome]) ∧ w = w'
set_option maxHeartbeats 400000 in
set_option maxRecDepth 1000000 in
theorem digit_any (c : Nat) (w : World) (hc : c ≤ 2147483647) : Calls Tryd.prog 155 #[.int .i32 (c : Int)] w (DigPost (hexv c) w) := by
  generalize hR : hexv c = R
  have HR := hq hR
  clear hR
  unfold hexv at HR
  by_cases h1 : 48 ≤ c ∧ c ≤ 57
  · have HN : Hq (R = some (c - 48)) := hq (by rw [← HR.o, if_pos h1])
    obtain ⟨g1, g2⟩ := h1
    clear HR
    go_enter Tryd.func155, Tryd.ntmps155
    go_wp2_with fail
    go_ret2
    exact ⟨by rw [HN.o]; exact ret_two (int_eq (by simp only [Option.getD_some]; omega)) rfl, rfl⟩
  · by_cases h2 : 97 ≤ c ∧ c ≤ 102
    · have HN : Hq (R = some (c - 87)) := hq (by rw [← HR.o, if_neg h1, if_pos h2])
      obtain ⟨g1, g2⟩ := h2
      clear HR h1
      have g0 : ¬ c ≤ 57 := by omega
      go_enter Tryd.func155, Tryd.ntmps155
      go_wp2_with fail
      go_ret2
      exact ⟨by rw [HN.o]; exact ret_two (int_eq (by simp only [Option.getD_some]; omega)) rfl, rfl⟩
    · by_cases h3 : 65 ≤ c ∧ c ≤ 70
      · have HN : Hq (R = some (c - 55)) := hq (by rw [← HR.o, if_neg h1, if_neg h2, if_pos h3])
        obtain ⟨g1, g2⟩ := h3
        clear HR h1 h2
        have g0 : ¬ c ≤ 57 := by omega
        have g3 : ¬ 97 ≤ c := by omega
        go_enter Tryd.func155, Tryd.ntmps155
        go_wp2_with fail
        go_ret2
        exact ⟨by rw [HN.o]; exact ret_two (int_eq (by simp only [Option.getD_some]; omega)) rfl, rfl⟩
      · have HN : Hq (R = none) := hq (by rw [← HR.o, if_neg h1, if_neg h2, if_neg h3])
        clear HR
        by_cases a1 : 48 ≤ c
        · have a2 : ¬ c ≤ 57 := by omega
          by_cases b1 : 97 ≤ c
          · have b2 : ¬ c ≤ 102 := by omega
            have d1 : 65 ≤ c := by omega
            have d2 : ¬ c ≤ 70 := by omega
            clear h1 h2 h3
            go_enter Tryd.func155, Tryd.ntmps155
            go_wp2_with fail
            go_ret2
            exact ⟨by rw [HN.o]; rfl, rfl⟩
          · by_cases d1 : 65 ≤ c
            · have d2 : ¬ c ≤ 70 := by omega
              clear h1 h2 h3
              go_enter Tryd.func155, Tryd.ntmps155
              go_wp2_with fail
              go_ret2
              exact ⟨by rw [HN.o]; rfl, rfl⟩
            · clear h1 h2 h3
              go_enter Tryd.func155, Tryd.ntmps155
              go_wp2_with fail
              go_ret2
              exact ⟨by rw [HN.o]; rfl, rfl⟩
        · have b1 : ¬ 97 ≤ c := by omega
          have d1 : ¬ 65 ≤ c := by omega
          clear h1 h2 h3
          go_enter Tryd.func155, Tryd.ntmps155
          go_wp2_with fail
          go_ret2
          exact ⟨by rw [HN.o]; rfl, rfl⟩

def hexAcc (t : ByteArray) : Nat → Option Nat
  | 0 => some 0
  | k + 1 => match hexAcc t k with
    | none => none
    | some a => match hexv (byt t (2 + k)) with
      | none => none
      | some x => some (a * 16 + x)
theorem hexAcc_four (t : ByteArray) : hexAcc t 4 = hex4 (byt t 2) (byt t 3) (byt t 4) (byt t 5) := by
  unfold hex4
  simp only [hexAcc, Nat.add_zero, Nat.reduceAdd]
  cases hexv (byt t 2) with
  | none => rfl
  | some a =>
    cases hexv (byt t 3) with
    | none => rfl
    | some b =>
      cases hexv (byt t 4) with
      | none => rfl
      | some c =>
        cases hexv (byt t 5) with
        | none => rfl
        | some d => simp
theorem hexAcc_lt (t : ByteArray) : ∀ k a, hexAcc t k = some a → a < 16 ^ k
  | 0, a, h => by injection h with h; omega
  | k + 1, a, h => by
    unfold hexAcc at h
    split at h
    · cases h
    · rename_i b hb
      have ih := hexAcc_lt t k b hb
      split at h
      · cases h
      · rename_i x hx
        have := (hexv_lt hx).1
        injection h with h
        rw [Nat.pow_succ]; omega
theorem hexAcc_none (t : ByteArray) : ∀ k j, hexAcc t k = none → hexAcc t (k + j) = none
  | k, 0, h => h
  | k, j + 1, h => by
    have ih := hexAcc_none t k j h
    rw [← Nat.add_assoc, hexAcc, ih]
end Go.Proofs.YtmomildkopainaaDoor
