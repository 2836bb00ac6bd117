/-
  WALKS: the law OrderTurns.
-/
import Derived.Test.YtccdmoogjcgcfaaOrB
namespace Go.Proofs.Ytccdmoogjcgcfaa
open Go.RowKit

set_option maxHeartbeats 4000000 in
set_option maxRecDepth 1000000 in
theorem orderTurns_any (rb rl rr rn : SRow) (x y : Bs) (w : World) (h0 : rb.ok w) (h1 : rl.ok w) (h2 : rr.ok w) (h3 : rn.ok w) (z0 : Shorts rb.l) (z1 : Shorts rl.l) (z2 : Shorts rr.l) (z3 : Shorts rn.l) (hx : x.length ≤ maxLen) (hy : y.length ≤ maxLen) :
    Calls Try.prog 5 #[rb.v, rl.v, rr.v, rn.v, .string (st x), .string (st y)] w fun e w' => e = .returned (.bool true) ∧ Below w.heap.size w w' := by
  have HS := hq (small_any w)
  have HSB := hq (fun W (hb : Below w.heap.size w W) => short_row' rb W (h0.grow hb) z0)
  have HSL := hq (fun W (hb : Below w.heap.size w W) => short_row' rl W (h1.grow hb) z1)
  have HSR := hq (fun W (hb : Below w.heap.size w W) => short_row' rr W (h2.grow hb) z2)
  have HSN := hq (fun W (hb : Below w.heap.size w W) => short_row' rn W (h3.grow hb) z3)
  obtain ⟨V, hV⟩ : ∃ V, mergeV rb.l rl.l rr.l rn.l = V := ⟨_, rfl⟩
  have HMA := hq (fun W (hb : Below w.heap.size w W) => merge_gen rb rl rr rn W (h0.grow hb) (h1.grow hb) (h2.grow hb) (h3.grow hb) z0 z1 z2 z3 hV)
  have HMB := hq (fun W (hb : Below w.heap.size w W) => merge_gen (V := V) rb rr rl rn W (h0.grow hb) (h2.grow hb) (h1.grow hb) (h3.grow hb) z0 z2 z1 z3 (by rw [mergeV_turn]; exact hV))
  clear hV
  have HAC := hq (fun W (hb : Below w.heap.size w W) => ahead_any rb rl rr x y W (h0.grow hb) (h1.grow hb) (h2.grow hb) z0 z1 z2 hx hy)
  have HAD := hq (fun W (hb : Below w.heap.size w W) => ahead_any rb rr rl x y W (h0.grow hb) (h2.grow hb) (h1.grow hb) z0 z2 z1 hx hy)
  have HAE := hq (fun W (hb : Below w.heap.size w W) => ahead_any rb rl rr y x W (h0.grow hb) (h1.grow hb) (h2.grow hb) z0 z1 z2 hy hx)
  rw [AheadM_anti rb.l rl.l rr.l x y] at HAE
  rw [AheadM_turn rb.l rr.l rl.l x y] at HAD
  have HCS := hq (AheadM_cases rb.l rl.l rr.l x y)
  unfold aheadV at HAC HAD HAE
  generalize AheadM rb.l rl.l rr.l x y = p at *
  obtain ⟨c, one⟩ := p
  simp only at HAC HAD HAE HCS
  have HOB := hq (fun W (hb : Below w.heap.size w W) => once_row' rb W (h0.grow hb) z0 rfl)
  have HOL := hq (fun W (hb : Below w.heap.size w W) => once_row' rl W (h1.grow hb) z1 rfl)
  have HML := hq (fun W (hb : Below w.heap.size w W) (e1 : onceB rb.l = true) (e2 : onceB rl.l = true) => merge_gen rb rl rb rl W (h0.grow hb) (h1.grow hb) (h0.grow hb) (h1.grow hb) z0 z1 z0 z1 (mergeV_base e1 e2))
  have HMM := hq (fun W (hb : Below w.heap.size w W) (e1 : onceB rb.l = true) (e2 : onceB rl.l = true) => merge_gen rb rb rl rl W (h0.grow hb) (h0.grow hb) (h1.grow hb) (h1.grow hb) z0 z0 z1 z1 ((mergeV_turn _ _ _ _).trans (mergeV_base e1 e2)))
  have HKL := hq (fun W (hb : Below w.heap.size w W) => h1.grow hb)
  generalize onceB rb.l = ob at *
  generalize onceB rl.l = ol at *
  have hnc := h3.le
  have hnp := h3.cp
  clear h0 h1 h2 h3 z0 z1 z2 z3 hx hy
  unfold maxLen at hnp
  obtain ⟨bo, bc, b⟩ := rb
  obtain ⟨lo, lc, l⟩ := rl
  obtain ⟨ro, rc, r⟩ := rr
  obtain ⟨no, nc, n⟩ := rn
  simp only at hnc hnp
  unfold SRow.v at HSB HSL HSR HSN HMA HMB HML HMM HAC HAD HAE HOB HOL ⊢
  have hvv : (V.isSome != V.isSome) = false := by cases V.isSome <;> rfl
  have hoo : (one != one) = false := by cases one <;> rfl
  generalize hs : V.isSome = vs at *
  clear hs
  go_enter Try.func5, Try.ntmps5
  go_wp2_with fail
  refine HS.o.mono ?_
  rintro e w1 ⟨rfl, hb1⟩
  have HB1 := hq hb1
  clear hb1 HS
  go_wp2_with fail
  refine (HSB.o w1 HB1.o).mono ?_
  rintro e w2 ⟨⟨v1, rfl, _⟩, hw2⟩
  rw [hw2]
  clear hw2 HSB
  cases v1 with
  | false =>
    clear HMA HMB HML HMM HOL HOB HSN HSL HSR HAC HAD HAE
    go_wp2_with fail
    go_ret
    exact ⟨rfl, HB1.o⟩
  | true =>
  go_wp2_with fail
  refine (HSL.o w1 HB1.o).mono ?_
  rintro e w2 ⟨⟨v1, rfl, _⟩, hw2⟩
  rw [hw2]
  clear hw2 HSL
  cases v1 with
  | false =>
    clear HMA HMB HML HMM HOL HOB HSN HSR HAC HAD HAE
    go_wp2_with fail
    go_ret
    exact ⟨rfl, HB1.o⟩
  | true =>
  go_wp2_with fail
  refine (HSR.o w1 HB1.o).mono ?_
  rintro e w2 ⟨⟨v1, rfl, _⟩, hw2⟩
  rw [hw2]
  clear hw2 HSR
  cases v1 with
  | false =>
    clear HMA HMB HML HMM HOL HOB HSN HAC HAD HAE
    go_wp2_with fail
    go_ret
    exact ⟨rfl, HB1.o⟩
  | true =>
  go_wp2_with fail
  refine (HSN.o w1 HB1.o).mono ?_
  rintro e w2 ⟨⟨v1, rfl, _⟩, hw2⟩
  rw [hw2]
  clear hw2 HSN
  cases v1 with
  | false =>
    clear HMA HMB HML HMM HOL HOB HAC HAD HAE
    go_wp2_with fail
    go_ret
    exact ⟨rfl, HB1.o⟩
  | true =>
  by_cases hbig : 30 < n.length
  · have hz1 : (30 : Int) < (n.length : Int) := by omega
    clear HMA HMB HML HMM HOL HOB HAC HAD HAE
    go_wp2_with fail
    go_ret
    exact ⟨rfl, HB1.o⟩
  · have hz1 : ¬ (30 : Int) < (n.length : Int) := by omega
    go_wp2_with fail
    refine (HMA.o w1 HB1.o).mono ?_
    rintro e w2 ⟨⟨ao, ac, al⟩, rfl, hal, hak, hb2⟩
    simp only at hal
    have HB2 := hq (below_trans HB1.o hb2)
    have HAK := hq hak
    have HAL := hq hal
    clear hb2 hak hal HMA
    dsimp only
    go_wp2_with fail
    refine (HMB.o w2 HB2.o).mono ?_
    rintro e w3 ⟨⟨mo, mc, ml⟩, rfl, hbl, hbk, hb3⟩
    simp only at hbl
    have HB3 := hq (below_trans HB2.o hb3)
    have HAK3 := hq (HAK.o.grow hb3)
    have HBK := hq hbk
    have HBL := hq hbl
    clear hb3 hbk hbl HMB HAK
    dsimp only
    go_wp2_with fail
    refine (HAC.o w3 HB3.o).mono ?_
    rintro e w4 ⟨rfl, hb4⟩
    have HB4 := hq (below_trans HB3.o hb4)
    have HAK4 := hq (HAK3.o.grow hb4)
    have HBK4 := hq (HBK.o.grow hb4)
    clear hb4 HAC HAK3 HBK
    go_wp2_with fail
    refine (HAD.o w4 HB4.o).mono ?_
    rintro e w5 ⟨rfl, hb5⟩
    have HB5 := hq (below_trans HB4.o hb5)
    have HAK5 := hq (HAK4.o.grow hb5)
    have HBK5 := hq (HBK4.o.grow hb5)
    clear hb5 HAD HAK4 HBK4
    go_wp2_with fail
    refine (HAE.o w5 HB5.o).mono ?_
    rintro e w6 ⟨rfl, hb6⟩
    have HB6 := hq (below_trans HB5.o hb6)
    have HAK6 := hq (HAK5.o.grow hb6)
    have HBK6 := hq (HBK5.o.grow hb6)
    clear hb6 HAE HAK5 HBK5
    have HSM := hq (same_is ⟨ao, ac, al⟩ ⟨mo, mc, ml⟩ w6 HAK6.o HBK6.o (HAL.o.trans HBL.o.symm))
    unfold SRow.v at HSM
    simp only at HSM
    clear HAK6 HBK6 HAL HBL
    have hneg : wrap64 (-c) = -c := by rcases HCS.o with h | h | h <;> rw [h] <;> decide +kernel
    have hcc : (c != c) = false := bne_self_eq_false c
    have hcn : (-c != -c) = false := bne_self_eq_false (-c)
    go_wp2_with fail
    refine HSM.o.mono ?_
    rintro e w7 ⟨rfl, hb7⟩
    have HB7 := hq (below_trans HB6.o hb7)
    clear hb7 HSM
    go_wp2_with fail
    refine (HOB.o w7 HB7.o).mono ?_
    rintro e w8 ⟨rfl, hb8⟩
    have HB8 := hq (below_trans HB7.o hb8)
    clear hb8 HOB
    cases ob with
    | false =>
      clear HML HMM HOL
      go_wp2_with fail
      go_ret
      exact ⟨rfl, HB8.o⟩
    | true =>
    go_wp2_with fail
    refine (HOL.o w8 HB8.o).mono ?_
    rintro e w9 ⟨rfl, hb9⟩
    have HB9 := hq (below_trans HB8.o hb9)
    clear hb9 HOL
    cases ol with
    | false =>
      clear HML HMM
      go_wp2_with fail
      go_ret
      exact ⟨rfl, HB9.o⟩
    | true =>
    go_wp2_with fail
    refine (HML.o w9 HB9.o (by trivial) (by trivial)).mono ?_
    rintro e w10 ⟨⟨po, pc, pl⟩, rfl, hpl, hpk, hb10⟩
    obtain rfl : pl = l := hpl
    have HB10 := hq (below_trans HB9.o hb10)
    have HPK := hq hpk
    clear hb10 hpk HML
    dsimp only
    go_wp2_with fail
    refine (HMM.o w10 HB10.o (by trivial) (by trivial)).mono ?_
    rintro e w11 ⟨⟨qo, qc, ql⟩, rfl, hql, hqk, hb11⟩
    obtain rfl : ql = pl := hql
    have HB11 := hq (below_trans HB10.o hb11)
    have HPK2 := hq (HPK.o.grow hb11)
    have HQK := hq hqk
    clear hb11 hqk HMM HPK
    dsimp only
    have HSA := hq (same_is ⟨po, pc, ql⟩ ⟨lo, lc, ql⟩ w11 HPK2.o (HKL.o w11 HB11.o) rfl)
    have HSC := hq (fun W (hb : Below w11.heap.size w11 W) => same_is ⟨po, pc, ql⟩ ⟨qo, qc, ql⟩ W (HPK2.o.grow hb) (HQK.o.grow hb) rfl)
    unfold SRow.v at HSA HSC
    simp only at HSA HSC
    clear HPK2 HQK HKL
    go_wp2_with fail
    refine HSA.o.mono ?_
    rintro e w12 ⟨rfl, hb12⟩
    have HB12 := hq hb12
    clear hb12 HSA
    go_wp2_with fail
    refine (HSC.o w12 HB12.o).mono ?_
    rintro e w13 ⟨rfl, hb13⟩
    have HB13 := hq (below_trans (below_trans HB11.o HB12.o) hb13)
    clear hb13 HSC
    go_wp2_with fail
    go_ret
    exact ⟨rfl, HB13.o⟩
end Go.Proofs.Ytccdmoogjcgcfaa
