/-
  WALKS: the law OrderSame.
-/
import Derived.Test.YtekihjffefokjaaOrJ
import Derived.Test.YtekihjffefokjaaOrK
namespace Go.Proofs.Ytekihjffefokjaa
open Go.RowKit

theorem merge_is {rb rl rr rn : SRow} {w : World} {on : Bool} {out : List Bs} (h0 : rb.ok w) (h1 : rl.ok w) (h2 : rr.ok w) (h3 : rn.ok w) (z0 : Shorts rb.l) (z1 : Shorts rl.l) (z2 : Shorts rr.l) (z3 : Shorts rn.l) (ho : onceAll rb.l rl.l rr.l rn.l = on) (hm : on = true → okAll rb.l rl.l rr.l rn.l ∧ mergeAll rb.l rl.l rr.l rn.l = some out) :
    Calls Try.prog 11 #[rb.v, rl.v, rr.v, rn.v] w fun e w' => ∃ r : SRow, e = .returned (.tuple #[r.v, .bool on]) ∧ r.l = (if on = true then out else []) ∧ r.ok w' ∧ Below w.heap.size w w' := by
  cases on with
  | true =>
    obtain ⟨hk, hm⟩ := hm rfl
    refine (merge_some h0 h1 h2 h3 z0 z1 z2 z3 ho hk hm).mono ?_
    rintro e w' ⟨r, hr, rfl, hok, hb⟩
    exact ⟨r, rfl, by rw [if_pos rfl]; exact hr, hok, hb⟩
  | false =>
    refine (merge_none h0 h1 h2 h3 z0 z1 z2 z3 (fun h => by rw [ho] at h; exact absurd h.1 (by simp))).mono ?_
    rintro e w' ⟨rfl, hb⟩
    exact ⟨⟨none, 0, []⟩, rfl, rfl, nil_ok _, hb⟩
theorem once_self (l : List Bs) : onceAll l l l l = onceB l := by unfold onceAll; cases onceB l <;> rfl
theorem once_nil : onceB [] = true := by kernel_rfl
theorem shorts_nil : Shorts [] := fun x hx => by cases hx
theorem once_row (rn : SRow) (w : World) (h : rn.ok w) (z : Shorts rn.l) : Calls Try.prog 14 #[rn.v] w fun e w' => e = .returned (.bool (onceB rn.l)) ∧ Below w.heap.size w w' := once_any rn.o rn.cap rn.l w h.le h.cp h.rd z
theorem short_row (rn : SRow) (w : World) (h : rn.ok w) (z : Shorts rn.l) : Calls Try.prog 8 #[rn.v] w (ShortPost rn.l w) := short_any rn.o rn.cap rn.l w h.le h.cp h.rd z
theorem same_row (ra rb : SRow) (w : World) (h : ra.ok w) (h' : rb.ok w) : Calls Try.prog 13 #[ra.v, rb.v] w fun e w' => e = .returned (.bool (decide (ra.l = rb.l))) ∧ Below w.heap.size w w' := rsame_any ra.o rb.o ra.cap rb.cap ra.l rb.l w h.le h.cp h.rd h'.le h'.cp h'.rd
/-- names in their order, each once, rise -/
theorem sortL_rise {l : List Bs} (hn : l.Nodup) {i : Nat} (h : i + 1 < (sortL l).length) : Op.bytesLess ((sortL l)[i]'(by omega)) (sortL l)[i + 1] = true := by
  have h1 : (sortL l).Pairwise fun x y => decide (x ≤ y) = true := List.pairwise_mergeSort (le := fun x y : Bs => decide (x ≤ y)) (fun a b c h1 h2 => decide_eq_true (List.le_trans (of_decide_eq_true h1) (of_decide_eq_true h2))) (fun a b => by
    rcases List.le_total a b with h | h
    · simp [h]
    · simp [h]) l
  have h2 := of_decide_eq_true (List.pairwise_iff_getElem.1 h1 i (i + 1) (by omega) h (Nat.lt_succ_self i))
  rw [bytesLess_eq]
  refine decide_eq_true (List.not_le.1 fun h3 => ?_)
  have e := List.le_antisymm h2 h3
  have := nodup_ix (sortL_nodup hn) (by omega) h e
  omega
set_option maxHeartbeats 4000000 in
set_option maxRecDepth 1000000 in
theorem orderSame_any (rl rn : SRow) (w : World) (h0 : rl.ok w) (h1 : rn.ok w) (z0 : Shorts rl.l) (z1 : Shorts rn.l) : Calls Try.prog 6 #[rl.v, rn.v] w fun e w' => e = .returned (.bool true) ∧ Below w.heap.size w w' := by
  have HS := hq (small_any w)
  have HSL := hq (fun W (hb : Below w.heap.size w W) => short_row rl W (h0.grow hb) z0)
  have HSN := hq (fun W (hb : Below w.heap.size w W) => short_row rn W (h1.grow hb) z1)
  have HOL := hq (fun W (hb : Below w.heap.size w W) => once_row rl W (h0.grow hb) z0)
  have HON := hq (fun W (hb : Below w.heap.size w W) => once_row rn W (h1.grow hb) z1)
  have HKL := hq (fun W (hb : Below w.heap.size w W) => h0.grow hb)
  have hnd : ∀ {l : List Bs}, onceB l = true → l.Nodup := fun h => ((onceB_iff _).1 h).2
  have HMA := hq (fun W (hb : Below w.heap.size w W) => merge_is (out := rl.l) (h0.grow hb) (h0.grow hb) (h0.grow hb) (h0.grow hb) z0 z0 z0 z0 (once_self rl.l) (fun h => ⟨okAll_of fun i j hij hj => by rw [aheadM_same (hnd h) hij hj], mergeAll_own (hnd h) fun i j hij hj => by rw [aheadM_same (hnd h) hij hj]⟩))
  have HMB := hq (fun W (hb : Below w.heap.size w W) => merge_is (rb := ⟨none, 0, []⟩) (rr := ⟨none, 0, []⟩) (on := onceB rl.l) (out := rl.l) (nil_ok W) (h0.grow hb) (nil_ok W) (h0.grow hb) shorts_nil z0 shorts_nil z0 (by unfold onceAll; rw [once_nil]; cases onceB rl.l <;> rfl) (fun h => ⟨okAll_of fun i j hij hj => by rw [aheadM_left (hnd h) hij hj], mergeAll_own (hnd h) fun i j hij hj => by rw [aheadM_left (hnd h) hij hj]⟩))
  have HMC := hq (fun W (hb : Below w.heap.size w W) => merge_is (rb := ⟨none, 0, []⟩) (rl := ⟨none, 0, []⟩) (rr := ⟨none, 0, []⟩) (rn := rn) (on := onceB rn.l) (out := sortL rn.l) (nil_ok W) (nil_ok W) (nil_ok W) (h1.grow hb) shorts_nil shorts_nil shorts_nil z1 (by unfold onceAll; rw [once_nil]; cases onceB rn.l <;> rfl) (fun h => ⟨okAll_of fun i j hij hj => rfl, by
    unfold mergeAll
    have h2 := mergeGo_free (bef := befN [] [] []) (fun a b => rfl) (sortL rn.l)
    rw [sortL_len] at h2
    exact h2⟩))
  have HNN : Hq (onceB rn.l = true → rn.l.Nodup) := hq hnd
  have hlc := h0.le
  have hcp := h0.cp
  have hnc := h1.le
  have hnp := h1.cp
  clear h0 h1 z0 z1 hnd
  unfold maxLen at hcp hnp
  obtain ⟨lo, lc, l⟩ := rl
  obtain ⟨no, nc, n⟩ := rn
  unfold SRow.v at HSL HSN HOL HON HMA HMB HMC ⊢
  simp only [List.length_nil] at *
  go_enter Try.func6, Try.ntmps6
  go_wp2_with fail
  refine HS.o.mono ?_
  rintro e w1 ⟨rfl, hb1⟩
  have HB1 := hq hb1
  clear hb1 HS
  go_wp2_with fail
  refine (HSL.o w1 HB1.o).mono ?_
  rintro e w2 ⟨⟨v1, rfl, _⟩, hw2⟩
  rw [hw2]
  clear hw2 HSL
  cases v1 with
  | false =>
    clear HMA HMB HMC HOL HON HSN
    go_wp2_with fail
    go_ret
    exact ⟨rfl, HB1.o⟩
  | true =>
    go_wp2_with fail
    refine (HSN.o w1 HB1.o).mono ?_
    rintro e w2 ⟨⟨v1, rfl, _⟩, hw2⟩
    rw [hw2]
    clear hw2 HSN
    cases v1 with
    | false =>
      clear HMA HMB HMC HOL HON
      go_wp2_with fail
      go_ret
      exact ⟨rfl, HB1.o⟩
    | true =>
      by_cases hbig : n.length ≤ 30 ∧ l.length ≤ 60
      · have hz1 : ¬ (30 : Int) < (n.length : Int) := by omega
        have hz2 : ¬ (60 : Int) < (l.length : Int) := by omega
        go_wp2_with fail
        refine (HMA.o w1 HB1.o).mono ?_
        rintro e w2 ⟨⟨ao, ac, al⟩, rfl, hal, hak, hb2⟩
        simp only at hal
        have HB2 := hq (below_trans HB1.o hb2)
        have HAK := hq hak
        have HAL := hq hal
        clear hb2 hak hal HMA
        dsimp only
        go_wp2_with fail
        refine (HMB.o w2 HB2.o).mono ?_
        rintro e w3 ⟨⟨bo, bc, bl⟩, rfl, hbl, hbk, hb3⟩
        simp only at hbl
        have HB3 := hq (below_trans HB2.o hb3)
        have HAK3 := hq (HAK.o.grow hb3)
        have HBK := hq hbk
        have HBL := hq hbl
        clear hb3 hbk hbl HMB HAK
        dsimp only
        go_wp2_with fail
        refine (HMC.o w3 HB3.o).mono ?_
        rintro e w4 ⟨⟨co, cc, cl⟩, rfl, hcl, hck, hb4⟩
        simp only at hcl
        have HB4 := hq (below_trans HB3.o hb4)
        have HAK4 := hq (HAK3.o.grow hb4)
        have HBK4 := hq (HBK.o.grow hb4)
        have HCK := hq hck
        have HCL := hq hcl
        clear hb4 hck hcl HMC HAK3 HBK
        dsimp only
        go_wp2_with fail
        refine (HOL.o w4 HB4.o).mono ?_
        rintro e w5 ⟨rfl, hb5⟩
        have HB5 := hq (below_trans HB4.o hb5)
        have HAK5 := hq (HAK4.o.grow hb5)
        have HBK5 := hq (HBK4.o.grow hb5)
        have HCK5 := hq (HCK.o.grow hb5)
        clear hb5 HOL HAK4 HBK4 HCK
        generalize onceB l = ol at *
        generalize onceB n = on at *
        have hbn : (ol != ol) = false := by cases ol <;> rfl
        have hbn2 : (on != on) = false := by cases on <;> rfl
        have hbe : (ol == ol) = true := by cases ol <;> rfl
        have hbe2 : (on == on) = true := by cases on <;> rfl
        go_wp2_with fail
        refine (HON.o w5 HB5.o).mono ?_
        rintro e w6 ⟨rfl, hb6⟩
        have HB6 := hq (below_trans HB5.o hb6)
        have HAK6 := hq (HAK5.o.grow hb6)
        have HBK6 := hq (HBK5.o.grow hb6)
        have HCK6 := hq (HCK5.o.grow hb6)
        clear hb6 HON HAK5 HBK5 HCK5
        have HRS : Hq (∀ k (h : k + 1 < cl.length), Op.bytesLess (cl[k]'(by omega)) cl[k + 1] = true) := hq (by
          have h2 := HCL.o
          cases on with
          | true => rw [if_pos rfl] at h2; subst h2; exact fun k h => sortL_rise (HNN.o rfl) h
          | false => rw [if_neg (by simp)] at h2; subst h2; exact fun k h => absurd h (by simp))
        have hcl : cl.length ≤ 30 := by
          have h2 := HCL.o
          cases on with
          | true => rw [if_pos rfl] at h2; rw [h2, sortL_len]; exact hbig.1
          | false => rw [if_neg (by simp)] at h2; rw [h2]; simp
        have HCE : Hq (on = true → cl.length = n.length) := hq (fun h => by
          have h2 := HCL.o
          rw [if_pos h] at h2; rw [h2, sortL_len])
        clear HCL HNN
        go_wp2_with fail
        go_loopw [12] (fun i wr => ∃ k m : Nat, i = .int .i64 (m : Int) ∧ Hq (m = k + 1) ∧ (m : Int) - 1 = (k : Int) ∧ (m = 1 ∨ m ≤ cl.length) ∧ Hq (Below w6.heap.size w6 wr)) (fun i _ => cl.length + 1 - (intOf i).toNat)
        case atStart => exact ⟨0, 1, rfl, hq rfl, rfl, .inl rfl, hq (Below.refl _ _)⟩
        case round =>
          obtain ⟨k, m, rfl, hmk, hsub, hk, hbw⟩ := hrel
          have HCKw := hq (HCK6.o.grow hbw.o)
          by_cases hlt : m < cl.length
          · have hz : (m : Int) < (cl.length : Int) := by omega
            have hkl : k < cl.length := by omega
            have hRS : Op.bytesLess cl[k] cl[m] = true := by
              have h2 := hmk.o
              subst h2
              exact HRS.o k hlt
            obtain ⟨b, f, hbo, hc1⟩ := HCKw.o.rd k hkl
            obtain ⟨b', f', hbo', hc2⟩ := HCKw.o.rd m hlt
            simp only at hbo hbo' hc1 hc2
            subst hbo
            cases hbo'
            generalize cl[k] = x at *
            generalize cl[m] = y at *
            have hxy : x ≠ y := fun e => by rw [e, bl_irr] at hRS; cases hRS
            have hyx : Op.bytesLess y x = false := by
              rw [bytesLess_eq] at hRS ⊢
              exact decide_eq_false fun h => absurd (of_decide_eq_true hRS) (List.not_lt.2 (List.le_of_lt h))
            have hne : (y == x) = false := beq_eq_false_iff_ne.2 (fun e => hxy e.symm)
            have HBD := hq hbw.o.drew
            go_wp2_with fail
            go_region
            all_goals go_wp2_with fail
            all_goals go_round
            all_goals first
              | exact ⟨m, m + 1, rfl, hq rfl, by omega, .inr (by omega), HBD⟩
              | exact ⟨m, m + 1, int_eq (by omega), hq rfl, by omega, .inr (by omega), HBD⟩
              | (simp [intOf]; omega)
              | (simp [intOf]; done)
          · have hz : ¬ (m : Int) < (cl.length : Int) := by omega
            have HBW := hq (below_trans HB6.o hbw.o)
            clear HRS hsub hmk hk HCKw
            have hce2 : on = true → ((cl.length : Int) == (n.length : Int)) = true := fun h => by rw [HCE.o h]; exact beq_self_eq_true _
            have HSA : Hq (∀ W, Below w6.heap.size w6 W → ol = true → Calls Try.prog 13 #[.slice ao al.length ac, .slice lo l.length lc] W fun e w' => e = .returned (.bool true) ∧ Below W.heap.size W w') := hq (fun W hb h => by
              have h2 := same_row ⟨ao, ac, al⟩ ⟨lo, lc, l⟩ W (HAK6.o.grow hb) (HKL.o W (below_trans HB6.o hb))
              have h3 := HAL.o
              rw [if_pos h] at h3
              simp only at h2
              rw [decide_eq_true h3] at h2
              exact h2)
            have HSB : Hq (∀ W, Below w6.heap.size w6 W → ol = true → Calls Try.prog 13 #[.slice bo bl.length bc, .slice lo l.length lc] W fun e w' => e = .returned (.bool true) ∧ Below W.heap.size W w') := hq (fun W hb h => by
              have h2 := same_row ⟨bo, bc, bl⟩ ⟨lo, lc, l⟩ W (HBK6.o.grow hb) (HKL.o W (below_trans HB6.o hb))
              have h3 := HBL.o
              rw [if_pos h] at h3
              simp only at h2
              rw [decide_eq_true h3] at h2
              exact h2)
            clear HAK6 HBK6 HCK6 HAL HBL HCE
            cases ol with
            | false =>
              cases on with
              | false =>
                go_wp2_with fail
                go_ret
                exact ⟨rfl, HBW.o⟩
              | true =>
                have hce3 := hce2 rfl
                go_wp2_with fail
                go_ret
                exact ⟨by first | rfl | rw [hce3], HBW.o⟩
            | true =>
              go_wp2_with fail
              refine (HSA.o wr hbw.o (by trivial)).mono ?_
              rintro e w7 ⟨rfl, hb7⟩
              go_wp2_with fail
              refine (HSB.o w7 (below_trans hbw.o hb7) (by trivial)).mono ?_
              rintro e w8 ⟨rfl, hb8⟩
              have HB8 := hq (below_trans (below_trans HBW.o hb7) hb8)
              clear hb7 hb8 HSA HSB
              cases on with
              | false =>
                go_wp2_with fail
                go_ret
                exact ⟨rfl, HB8.o⟩
              | true =>
                have hce3 := hce2 rfl
                go_wp2_with fail
                go_ret
                exact ⟨by first | rfl | rw [hce3], HB8.o⟩
      · by_cases h30 : 30 < n.length
        · have hz1 : (30 : Int) < (n.length : Int) := by omega
          clear HMA HMB HMC HOL HON
          go_wp2_with fail
          go_ret
          exact ⟨rfl, HB1.o⟩
        · have hz1 : ¬ (30 : Int) < (n.length : Int) := by omega
          have hz2 : (60 : Int) < (l.length : Int) := by omega
          clear HMA HMB HMC HOL HON
          go_wp2_with fail
          go_ret
          exact ⟨rfl, HB1.o⟩
end Go.Proofs.Ytekihjffefokjaa
