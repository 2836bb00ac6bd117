/-
  WALKS: the law OrderTells.
-/
import Derived.Test.YtccdmoogjcgcfaaOrI
namespace Go.Proofs.Ytccdmoogjcgcfaa
open Go.RowKit

set_option maxHeartbeats 4000000 in
set_option maxRecDepth 1000000 in
theorem orderTells_any (rb rl rr rn : SRow) (x y : Bs) (w : World) (h0 : rb.ok w) (h1 : rl.ok w) (h2 : rr.ok w) (h3 : rn.ok w) (z0 : Shorts rb.l) (z1 : Shorts rl.l) (z2 : Shorts rr.l) (z3 : Shorts rn.l) (hx : x.length ≤ maxLen) (hy : y.length ≤ maxLen) :
    Calls Try.prog 3 #[rb.v, rl.v, rr.v, rn.v, .string (st x), .string (st y)] w fun e w' => e = .returned (.bool true) ∧ Below w.heap.size w w' := by
  have HS := hq (small_any w)
  have HSB := hq (fun W (hb : Below w.heap.size w W) => short_row' rb W (h0.grow hb) z0)
  have HSL := hq (fun W (hb : Below w.heap.size w W) => short_row' rl W (h1.grow hb) z1)
  have HSR := hq (fun W (hb : Below w.heap.size w W) => short_row' rr W (h2.grow hb) z2)
  have HSN := hq (fun W (hb : Below w.heap.size w W) => short_row' rn W (h3.grow hb) z3)
  have HAC := hq (fun W (hb : Below w.heap.size w W) => ahead_any rb rl rr x y W (h0.grow hb) (h1.grow hb) (h2.grow hb) z0 z1 z2 hx hy)
  have HAD := hq (fun W (hb : Below w.heap.size w W) => rAhead_any rb rl rr x y W (h0.grow hb) (h1.grow hb) (h2.grow hb))
  unfold aheadV at HAC HAD
  generalize AheadM rb.l rl.l rr.l x y = p at *
  obtain ⟨c, one⟩ := p
  simp only at HAC HAD
  have HMA := hq (fun W (hb : Below w.heap.size w W) o cap (hk : (⟨o, cap, rn.l⟩ : SRow).ok W) => merge_gen rb rl rr ⟨o, cap, rn.l⟩ W (h0.grow hb) (h1.grow hb) (h2.grow hb) hk z0 z1 z2 z3 rfl)
  have HMB := hq (fun W (hb : Below w.heap.size w W) => rmerge_any rb rl rr rn W (h0.grow hb) (h1.grow hb) (h2.grow hb) (h3.grow hb))
  simp only at HMA
  generalize mergeV rb.l rl.l rr.l rn.l = V at *
  have HOA := hq (fun W (hb : Below w.heap.size w W) => once_row' rn W (h3.grow hb) z3 rfl)
  have HOB := hq (fun W (hb : Below w.heap.size w W) => ronce_any rn.o rn.cap rn.l W h3.le h3.cp (h3.rd.grow hb))
  have HNK := hq (fun W (hb : Below w.heap.size w W) => h3.grow hb)
  have hnc := h3.le
  have hnp := h3.cp
  clear h0 h1 h2 h3 z0 z1 z2 z3 hx hy
  unfold maxLen at hnp
  obtain ⟨bo, bc, b⟩ := rb
  obtain ⟨lo, lc, l⟩ := rl
  obtain ⟨ro, rc, r⟩ := rr
  obtain ⟨no, nc, n⟩ := rn
  simp only at hnc hnp HMA HOA HOB
  unfold SRow.v at HSB HSL HSR HSN HMA HMB HAC HAD HOA ⊢
  simp only at HMA
  generalize onceB n = on at *
  generalize hs : V.isSome = vs at *
  clear hs
  have hvv : (vs == vs) = true := by cases vs <;> rfl
  have hoo : (one == one) = true := by cases one <;> rfl
  have hnn : (on == on) = true := by cases on <;> rfl
  have hcc : (c == c) = true := beq_self_eq_true c
  go_enter Try.func3, Try.ntmps3
  go_wp2_with fail
  refine HS.o.mono ?_
  rintro e w1 ⟨rfl, hb1⟩
  have HB1 := hq hb1
  clear hb1 HS
  go_wp2_with fail
  refine (HSB.o w1 HB1.o).mono ?_
  rintro e w2 ⟨⟨v1, rfl, _⟩, hw2⟩
  rw [hw2]
  clear hw2 HSB
  cases v1 with
  | false =>
    clear HMA HMB HOA HOB HSN HSL HSR HAC HAD
    go_wp2_with fail
    go_ret
    exact ⟨rfl, HB1.o⟩
  | true =>
  go_wp2_with fail
  refine (HSL.o w1 HB1.o).mono ?_
  rintro e w2 ⟨⟨v1, rfl, _⟩, hw2⟩
  rw [hw2]
  clear hw2 HSL
  cases v1 with
  | false =>
    clear HMA HMB HOA HOB HSN HSR HAC HAD
    go_wp2_with fail
    go_ret
    exact ⟨rfl, HB1.o⟩
  | true =>
  go_wp2_with fail
  refine (HSR.o w1 HB1.o).mono ?_
  rintro e w2 ⟨⟨v1, rfl, _⟩, hw2⟩
  rw [hw2]
  clear hw2 HSR
  cases v1 with
  | false =>
    clear HMA HMB HOA HOB HSN HAC HAD
    go_wp2_with fail
    go_ret
    exact ⟨rfl, HB1.o⟩
  | true =>
  go_wp2_with fail
  refine (HSN.o w1 HB1.o).mono ?_
  rintro e w2 ⟨⟨v1, rfl, _⟩, hw2⟩
  rw [hw2]
  clear hw2 HSN
  cases v1 with
  | false =>
    clear HMA HMB HOA HOB HAC HAD
    go_wp2_with fail
    go_ret
    exact ⟨rfl, HB1.o⟩
  | true =>
  by_cases hbig : 30 < n.length
  · have hz1 : (30 : Int) < (n.length : Int) := by omega
    clear HMA HMB HOA HOB HAC HAD
    go_wp2_with fail
    go_ret
    exact ⟨rfl, HB1.o⟩
  · have hz1 : ¬ (30 : Int) < (n.length : Int) := by omega
    have HNR := hq (HNK.o w1 HB1.o)
    go_upto_region 5 with fail
    go_wp2_with (at_builtin; refine wpList_copyrow rfl _ _ rfl (g := w1.heap.size) (HNR.o.grow (below_alloc w1 _)) (by omega) rfl rfl ?_)
    intro g2 c2 w2 hg2 hok2 hb2
    have hb2' : Below (w1.alloc (.cells #[] 9)).heap.size (w1.alloc (.cells #[] 9)) w2 := by rw [World.size_alloc]; exact hb2
    have HB2 := hq (below_trans HB1.o (below_trans (below_alloc w1 _) hb2'))
    have HIN := hq hok2
    clear hg2 hok2 hb2 hb2' HNR
    go_wp2_with fail
    refine (HAC.o w2 HB2.o).mono ?_
    rintro e w3 ⟨rfl, hb3⟩
    have HB3 := hq (below_trans HB2.o hb3)
    have HIN3 := hq (HIN.o.grow hb3)
    clear hb3 HAC HIN
    go_wp2_with fail
    refine (HAD.o w3 HB3.o).mono ?_
    rintro e w4 ⟨rfl, hb4⟩
    have HB4 := hq (below_trans HB3.o hb4)
    have HIN4 := hq (HIN3.o.grow hb4)
    clear hb4 HAD HIN3
    go_wp2_with fail
    refine (HMA.o w4 HB4.o _ _ HIN4.o).mono ?_
    rintro e w5 ⟨⟨po, pc, pl⟩, rfl, hpl, hpk, hb5⟩
    have HB5 := hq (below_trans HB4.o hb5)
    have HIN5 := hq (HIN4.o.grow hb5)
    have HPK := hq hpk
    have HPL := hq hpl
    clear hb5 hpk hpl HMA HIN4
    dsimp only
    go_wp2_with fail
    refine (HMB.o w5 HB5.o).mono ?_
    rintro e w6 ⟨⟨qo, qc, ql⟩, rfl, hql, hqk, hb6⟩
    have HB6 := hq (below_trans HB5.o hb6)
    have HIN6 := hq (HIN5.o.grow hb6)
    have HPK6 := hq (HPK.o.grow hb6)
    have HQK := hq hqk
    have HQL := hq hql
    clear hb6 hqk hql HMB HIN5 HPK
    dsimp only
    have HSA := hq (same_is ⟨po, pc, pl⟩ ⟨qo, qc, ql⟩ w6 HPK6.o HQK.o (HPL.o.trans HQL.o.symm))
    have HSC := hq (fun W (hb : Below w6.heap.size w6 W) => same_is ⟨some ⟨g2, 0, none⟩, c2, n⟩ ⟨no, nc, n⟩ W (HIN6.o.grow hb) (HNK.o W (below_trans HB6.o hb)) rfl)
    unfold SRow.v at HSA HSC
    simp only at HSA HSC
    clear HIN6 HPK6 HQK HNK HPL HQL
    go_wp2_with fail
    refine HSA.o.mono ?_
    rintro e w7 ⟨rfl, hb7⟩
    have HB7 := hq hb7
    clear hb7 HSA
    go_wp2_with fail
    refine (HOA.o w7 (below_trans HB6.o HB7.o)).mono ?_
    rintro e w8 ⟨rfl, hb8⟩
    have HB8 := hq (below_trans HB7.o hb8)
    clear hb8 HOA HB7
    go_wp2_with fail
    refine (HOB.o w8 (below_trans HB6.o HB8.o)).mono ?_
    rintro e w9 ⟨rfl, hb9⟩
    have HB9 := hq (below_trans HB8.o hb9)
    clear hb9 HOB HB8
    go_wp2_with fail
    refine (HSC.o w9 HB9.o).mono ?_
    rintro e w10 ⟨rfl, hb10⟩
    have HB10 := hq (below_trans HB6.o (below_trans HB9.o hb10))
    clear hb10 HSC
    go_wp2_with fail
    go_ret
    exact ⟨rfl, HB10.o⟩
end Go.Proofs.Ytccdmoogjcgcfaa
