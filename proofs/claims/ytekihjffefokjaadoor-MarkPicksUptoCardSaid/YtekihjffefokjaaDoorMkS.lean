/-
  WALKS: rows of parts held beside each other; few.
-/
import Derived.Test.YtekihjffefokjaaDoorMkV
import Derived.Test.YtekihjffefokjaaDoorMkP
namespace Go.Proofs.YtekihjffefokjaaDoor
open Go.RowKit

theorem eq_three (b c d : ByteArray) (W : World) : (Op.equalIn 9999 51 (.agg #[.string b, .string c, .string d]) (.agg #[.string b, .string c, .string d])).run Tryd.prog W = .ok true W := by
  have h1 := Tryd.underlying51
  have h2 := Tryd.underlying9
  obtain ⟨i, hi⟩ := Option.isSome_iff_exists.1 (show (Tryd.prog.info? 9).isSome = true by kernel_rfl)
  have hc : Tryd.prog.cellsOf 9 = 1 := by kernel_rfl
  refine (Go.run_equalIn_array W 9998 _ _ h1 hi).trans ?_
  have hr : List.range 3 = [0, 1, 2] := rfl
  rw [hr, hc]
  simp only [Op.eqItems]
  go_simp
theorem eq_part (h : Bool) (a b c d : ByteArray) : ∀ W : World, (Op.equalIn 10000 53 (.agg #[.bool h, .string a, .string b, .string c, .string d]) (.agg #[.bool h, .string a, .string b, .string c, .string d])).run Tryd.prog W = .ok true W := by
  intro W
  have h53 := Tryd.underlying53
  have h51 := Tryd.underlying51
  have hst : Tryd.prog.stoodInHeld 53 = false := by kernel_rfl
  go_simp
  rw [eq_three]
  rfl

set_option maxHeartbeats 2000000 in
set_option maxRecDepth 1000000 in
theorem same_yes (o o' : Option Addr) (cap cap' : Nat) (l : List MPart) (w : World) (hl : l.length ≤ cap) (hc : cap ≤ maxLen) (hin : PartsIn w o l) (_hl' : l.length ≤ cap') (_hc' : cap' ≤ maxLen) (hin' : PartsIn w o' l) :
    Calls Tryd.prog 32 #[.slice o l.length cap, .slice o' l.length cap'] w fun e w' => e = .returned (.bool true) ∧ Below w.heap.size w w' := by
  unfold maxLen at hc _hc'
  have HIN := hq hin
  have HIN' := hq hin'
  clear hin hin'
  go_enter Tryd.func32, Tryd.ntmps32
  go_wp2_with fail
  go_loopw [5] (fun i wr => ∃ k : Nat, k ≤ l.length ∧ i = .int .i64 (k : Int) ∧ Below w.heap.size w wr) (fun i _ => l.length - (intOf i).toNat)
  case atStart => exact ⟨0, Nat.zero_le _, rfl, Below.refl _ _⟩
  case round =>
    obtain ⟨k, hk, rfl, hb⟩ := hrel
    by_cases h : k < l.length
    · obtain ⟨b, f, rfl, hp⟩ := HIN.o k h
      obtain ⟨b', f', rfl, hp'⟩ := HIN'.o k h
      obtain ⟨c0, c1, c2, c3, c4⟩ := hp.grow hb
      obtain ⟨d0, d1, d2, d3, d4⟩ := hp'.grow hb
      clear hp hp' HIN HIN'
      generalize l[k] = x at *
      have e1 := eq_part x.hunk (st x.text) (st x.s0) (st x.s1) (st x.s2)
      go_wp2_with fail
      go_region
      go_wp2_with fail
      go_roundw
      case rel => exact ⟨k + 1, h, int_eq (by omega), hb.drew⟩
      case measure => simp [intOf]; omega
    · have h' : ¬ (k : Int) < (l.length : Int) := by omega
      go_wp2_with fail
      go_ret
      exact ⟨rfl, hb⟩

def sumL (x : MPart) : Nat := x.text.length + x.s0.length + x.s1.length + x.s2.length
def fewGo : Nat → List MPart → Bool
  | 0, _ => true
  | _ + 1, [] => true
  | n + 1, x :: l => decide (sumL x ≤ 1024) && fewGo n l
def fewM (l : List MPart) : Bool := fewGo 100 l && decide (l.length ≤ 60)
theorem fewGo_in : ∀ (n : Nat) (l : List MPart), fewGo n l = true → l.length ≤ n → ∀ x ∈ l, sumL x ≤ 1024
  | _, [], _, _, x, h => by cases h
  | 0, _ :: _, _, h, _, _ => by cases h
  | n + 1, y :: l, h, hn, x, hx => by
    unfold fewGo at h
    rw [Bool.and_eq_true, decide_eq_true_iff] at h
    rcases List.mem_cons.1 hx with rfl | hx
    · exact h.1
    · exact fewGo_in n l h.2 (by simpa using hn) x hx
theorem few_in {l : List MPart} (h : fewM l = true) : l.length ≤ 60 ∧ ∀ x ∈ l, Lens 1024 x := by
  unfold fewM at h
  rw [Bool.and_eq_true, decide_eq_true_iff] at h
  refine ⟨h.2, fun x hx => ?_⟩
  have := fewGo_in 100 l h.1 (by omega) x hx
  unfold sumL at this
  exact ⟨by omega, by omega, by omega, by omega⟩
theorem fewGo_step {l : List MPart} {k n : Nat} (h : k < l.length) : fewGo (n + 1) (l.drop k) = (decide (sumL l[k] ≤ 1024) && fewGo n (l.drop (k + 1))) := by
  rw [List.drop_eq_getElem_cons h]; rfl
theorem fewGo_end {l : List MPart} {k n : Nat} (h : ¬ k < l.length) : fewGo n (l.drop k) = true := by
  rw [List.drop_eq_nil_of_le (by omega)]
  cases n <;> rfl

set_option maxHeartbeats 2000000 in
set_option maxRecDepth 1000000 in
theorem mfew_any (o : Option Addr) (cap : Nat) (l : List MPart) (w : World) (_hl : l.length ≤ cap) (_hc : cap ≤ maxLen) (hin : PartsIn w o l) (hs : ∀ x ∈ l, Lens 1152921504606846976 x) :
    Calls Tryd.prog 23 #[.slice o l.length cap] w fun e w' => e = .returned (.bool (fewM l)) ∧ Below w.heap.size w w' := by
  unfold maxLen at _hc
  have HIN := hq hin
  have HS := hq hs
  have HV : Hq (fewM l = (fewGo (100 - 0) (l.drop 0) && decide (l.length ≤ 60))) := hq rfl
  generalize fewM l = V at *
  clear hin hs
  go_enter Tryd.func23, Tryd.ntmps23
  go_wp2_with fail
  go_loopw [3] (fun i wr => ∃ k : Nat, k ≤ l.length ∧ k ≤ 100 ∧ i = .int .i64 (k : Int) ∧ Hq (V = (fewGo (100 - k) (l.drop k) && decide (l.length ≤ 60))) ∧ Below w.heap.size w wr) (fun i _ => l.length - (intOf i).toNat)
  case atStart => exact ⟨0, Nat.zero_le _, Nat.zero_le _, rfl, HV, Below.refl _ _⟩
  case round =>
    obtain ⟨k, hk, hk2, rfl, hv, hb⟩ := hrel
    clear HV
    by_cases h : k < l.length
    · by_cases h2 : k < 100
      · obtain ⟨b, f, rfl, hp⟩ := HIN.o k h
        obtain ⟨c0, c1, c2, c3, c4⟩ := hp.grow hb
        obtain ⟨z0, z1, z2, z3⟩ := HS.o l[k] (List.getElem_mem h)
        have HN : Hq (V = ((decide (sumL l[k] ≤ 1024) && fewGo (100 - (k + 1)) (l.drop (k + 1))) && decide (l.length ≤ 60))) := hq (by rw [hv.o, show 100 - k = (100 - (k + 1)) + 1 by omega, fewGo_step h])
        clear hp HIN HS hv
        generalize l[k] = x at *
        obtain ⟨xh, T, s0, s1, s2⟩ := x
        simp only at c0 c1 c2 c3 c4 z0 z1 z2 z3
        have hsum : sumL ⟨xh, T, s0, s1, s2⟩ = T.length + s0.length + s1.length + s2.length := rfl
        by_cases h3 : T.length + s0.length + s1.length + s2.length ≤ 1024
        · rw [hsum, decide_eq_true h3, Bool.true_and] at HN
          go_wp2_with fail
          go_region
          go_wp2_with fail
          go_roundw
          case rel => exact ⟨k + 1, h, h2, int_eq (by omega), HN, hb.drew⟩
          case measure => simp [intOf]; omega
        · rw [hsum, decide_eq_false h3, Bool.false_and, Bool.false_and] at HN
          go_wp2_with fail
          go_region
          go_wp2_with fail
          go_ret
          exact ⟨by rw [HN.o]; rfl, hb.drew⟩
      · obtain rfl : k = 100 := by omega
        have h3 : ¬ l.length ≤ 60 := by omega
        have HN : Hq (V = false) := hq (by rw [hv.o, decide_eq_false h3, Bool.and_false])
        have h4 : ¬ (l.length : Int) ≤ 60 := by omega
        have h5 : decide ((l.length : Int) ≤ 60) = false := decide_eq_false h4
        clear hv
        go_wp2_with fail
        go_ret
        exact ⟨by rw [HN.o]; rfl, hb⟩
    · have h' : ¬ (k : Int) < (l.length : Int) := by omega
      have HN : Hq (V = decide (l.length ≤ 60)) := hq (by rw [hv.o, fewGo_end h, Bool.true_and])
      clear hv
      have h5 : decide ((l.length : Int) ≤ 60) = decide (l.length ≤ 60) := by
        by_cases h3 : l.length ≤ 60
        · rw [decide_eq_true h3]; exact decide_eq_true (by omega)
        · rw [decide_eq_false h3]; exact decide_eq_false (by omega)
      go_wp2_with fail
      go_ret
      exact ⟨by rw [HN.o]; rfl, hb⟩
end Go.Proofs.YtekihjffefokjaaDoor
