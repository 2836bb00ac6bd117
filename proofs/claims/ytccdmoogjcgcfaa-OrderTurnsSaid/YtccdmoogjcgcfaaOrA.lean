/-
  WALKS: order.ahead, Ahead.
-/
import Derived.Test.YtccdmoogjcgcfaaOrO
namespace Go.Proofs.Ytccdmoogjcgcfaa
open Go.RowKit Go.WideMaps Go.Maps

theorem MapTo.heaps {w W : World} {b k : Nat} {l : List Bs} (h : MapTo w b k l) (hW : W.heap = w.heap) : MapTo W b k l := by
  obtain ⟨es, c, h1, h2⟩ := h
  exact ⟨es, c, by rw [hW]; exact h1, h2⟩
theorem below_drawn' {B : Nat} {a w : World} (h : Below B a w) (n : Nat) : Below B a (w.drewN n) := ⟨h.os, h.tape, h.output, h.size, h.block⟩
/-- 'ahead' of the rows' maps -/
def aheadV (p : Int × Bool) : Value := .tuple #[.int .i64 p.1, .bool p.2]

set_option maxHeartbeats 2000000 in
set_option maxRecDepth 1000000 in
theorem iahead_any (B : Nat) (v : Value) (ms : List Nat) (lb ll lr : List Bs) (x y : Bs) (w : World) (h : MapsAt B w v ms [lb, ll, lr]) (hb : lb.length ≤ 9223372036854775807) (hl : ll.length ≤ 9223372036854775807) (hr : lr.length ≤ 9223372036854775807) (hx : x.length ≤ maxLen) (hy : y.length ≤ maxLen) :
    Calls Try.prog 17 #[v, .string (st x), .string (st y)] w fun e w' => e = .returned (aheadV (aheadM lb ll lr x y)) ∧ Below w.heap.size w w' := by
  obtain ⟨g, cap, rfl, hcl, hcm, hcell⟩ := h.cell (Nat.succ_pos 2)
  have c0 := hcell 0 (Nat.succ_pos 2)
  have c1 := hcell 1 (show 1 < 3 by decide)
  have c2 := hcell 2 (show 2 < 3 by decide)
  have H0 := hq (fun W (hW : W.heap = w.heap) => say_any _ lb x y W ((h.at_ 0 (Nat.succ_pos 2)).2.heaps hW) hb hx hy)
  have H1 := hq (fun W (hW : W.heap = w.heap) => say_any _ ll x y W ((h.at_ 1 (show 1 < 3 by decide)).2.heaps hW) hl hx hy)
  have H2 := hq (fun W (hW : W.heap = w.heap) => say_any _ lr x y W ((h.at_ 2 (show 2 < 3 by decide)).2.heaps hW) hr hx hy)
  have k0 := hq (sayM_cases lb x y)
  have k1 := hq (sayM_cases ll x y)
  have k2 := hq (sayM_cases lr x y)
  have HA : Hq (aheadM lb ll lr x y = aheadI (sayM lb x y) (sayM ll x y) (sayM lr x y)) := hq rfl
  have hl3 : ([lb, ll, lr] : List (List Bs)).length = 3 := rfl
  rw [hl3] at hcl
  rw [hl3]
  clear h hcell hl3
  generalize ms.getD 0 0 = m0 at *
  generalize ms.getD 1 0 = m1 at *
  generalize ms.getD 2 0 = m2 at *
  generalize sayM lb x y = s0 at *
  generalize sayM ll x y = s1 at *
  generalize sayM lr x y = s2 at *
  generalize aheadM lb ll lr x y = R at *
  go_enter Try.func17, Try.ntmps17
  go_wp2_with fail
  go_quiet ((go_at_call 28; first | (with_reducible exact Calls.quiet_of_same (H0.o _ rfl)) | (with_reducible exact Calls.quiet_of_same (H1.o _ rfl)) | (with_reducible exact Calls.quiet_of_same (H2.o _ rfl)) | exact Calls.quiet_of_same (H0.o _ rfl)))
  have HD : Hq (Below w.heap.size w (w.drewN nq)) := hq (below_drawn' (Below.refl _ _) nq)
  generalize w.drewN nq = w1 at *
  clear H0 H1 H2 c0 c1 c2
  rcases k0.o with rfl | rfl | rfl <;> rcases k1.o with rfl | rfl | rfl <;> rcases k2.o with rfl | rfl | rfl
  all_goals
    clear k0 k1 k2
    go_wp2_with fail
    go_ret2
    exact ⟨by rw [HA.o]; rfl, HD.o⟩

/-- what Ahead answers -/
def AheadM (base left right : List Bs) (x y : Bs) : Int × Bool := if (onceB base && (onceB left && onceB right)) = true ∧ x ≠ y then aheadM base left right x y else (0, false)

set_option maxHeartbeats 2000000 in
set_option maxRecDepth 1000000 in
theorem ahead_any (rb rl rr : SRow) (x y : Bs) (w : World) (h0 : rb.ok w) (h1 : rl.ok w) (h2 : rr.ok w) (z0 : Shorts rb.l) (z1 : Shorts rl.l) (z2 : Shorts rr.l) (hx : x.length ≤ maxLen) (hy : y.length ≤ maxLen) :
    Calls Try.prog 9 #[rb.v, rl.v, rr.v, .string (st x), .string (st y)] w fun e w' => e = .returned (aheadV (AheadM rb.l rl.l rr.l x y)) ∧ Below w.heap.size w w' := by
  have three : ∀ {p : SRow → Prop}, p rb → p rl → p rr → ∀ r ∈ [rb, rl, rr], p r := fun a b c r hr => by
    simp only [List.mem_cons, List.not_mem_nil, or_false] at hr
    rcases hr with rfl | rfl | rfl
    · exact a
    · exact b
    · exact c
  have HZ : Hq (∀ r ∈ [rb, rl, rr], Shorts r.l) := hq (three z0 z1 z2)
  have HOK := hq (fun W (hb : Below w.heap.size w W) => three (p := fun r => r.ok W) (h0.grow hb) (h1.grow hb) (h2.grow hb))
  have HW := hq (fun W => Whole.made W 22 #[rb.v, rl.v, rr.v])
  have HAL := hq (fun W (hb : Below w.heap.size w W) => oall_any (some ⟨W.heap.size, 0, none⟩) 3 [rb, rl, rr] (W.alloc (.cells #[rb.v, rl.v, rr.v] 22)) (Nat.le_refl 3) (by decide) (rows_whole (HW.o W) rfl (HOK.o _ (below_trans hb (below_alloc _ _)))) HZ.o)
  have HPL := hq (fun W (hb : Below w.heap.size w W) => places_any (some ⟨W.heap.size, 0, none⟩) 3 [rb, rl, rr] (W.alloc (.cells #[rb.v, rl.v, rr.v] 22)) (Nat.le_refl 3) (by decide) (show 3 * 8 ≤ 140737488351232 by decide) (rows_whole (HW.o W) rfl (HOK.o _ (below_trans hb (below_alloc _ _)))) HZ.o)
  have hall : ([rb, rl, rr].all fun r => onceB r.l) = (onceB rb.l && (onceB rl.l && onceB rr.l)) := by simp
  rw [hall] at HAL
  have HV : Hq (AheadM rb.l rl.l rr.l x y = if (onceB rb.l && (onceB rl.l && onceB rr.l)) = true ∧ x ≠ y then aheadM rb.l rl.l rr.l x y else (0, false)) := hq rfl
  have n0 := (show rb.l.length ≤ 9223372036854775807 from Nat.le_trans h0.le h0.cp)
  have n1 := (show rl.l.length ≤ 9223372036854775807 from Nat.le_trans h1.le h1.cp)
  have n2 := (show rr.l.length ≤ 9223372036854775807 from Nat.le_trans h2.le h2.cp)
  clear hall h0 h1 h2 z0 z1 z2 HOK HW HZ
  generalize AheadM rb.l rl.l rr.l x y = R at *
  generalize (onceB rb.l && (onceB rl.l && onceB rr.l)) = on at *
  unfold PlacesPost at HPL
  simp only [List.map_cons, List.map_nil, List.length_cons, List.length_nil, Nat.zero_add, Nat.reduceAdd] at HAL HPL
  obtain ⟨bo, bc, bl⟩ := rb
  obtain ⟨lo, lc, ll⟩ := rl
  obtain ⟨ro, rc, lr⟩ := rr
  unfold SRow.v at *
  simp only at *
  go_enter Try.func9, Try.ntmps9
  go_wp2_with fail
  refine (HAL.o w (Below.refl _ _)).mono ?_
  rintro e w1 ⟨rfl, hb1⟩
  have HB1 := hq (below_trans (below_alloc w (.cells #[.slice bo bl.length bc, .slice lo ll.length lc, .slice ro lr.length rc] 22)) hb1)
  clear HAL hb1
  cases on with
  | false =>
    have HR : Hq (R = (0, false)) := hq (by rw [HV.o, if_neg (by simp)])
    clear HV HPL
    go_wp2_with fail
    go_ret2
    exact ⟨by rw [HR.o]; rfl, HB1.o⟩
  | true =>
    by_cases hxy : x = y
    · have HR : Hq (R = (0, false)) := hq (by rw [HV.o, if_neg (fun h => h.2 hxy)])
      subst hxy
      clear HV HPL
      go_wp2_with fail
      go_ret2
      exact ⟨by rw [HR.o]; rfl, HB1.o⟩
    · have HR : Hq (R = aheadM bl ll lr x y) := hq (by rw [HV.o, if_pos ⟨rfl, hxy⟩])
      have e1 : (x == y) = false := beq_eq_false_iff_ne.2 hxy
      clear HV hxy
      go_wp2_with fail
      refine (HPL.o w1 HB1.o).mono ?_
      rintro e w2 ⟨⟨v, ms, rfl, hma⟩, hb2⟩
      have HB2 := hq (below_trans HB1.o (below_trans (below_alloc w1 _) hb2))
      have HAH := hq (iahead_any _ v ms bl ll lr x y w2 hma n0 n1 n2 hx hy)
      unfold aheadV at HAH
      clear HPL hma hb2
      generalize aheadM bl ll lr x y = p at *
      obtain ⟨p1, p2⟩ := p
      simp only at HAH
      go_wp2_with fail
      refine HAH.o.mono ?_
      rintro e w3 ⟨rfl, hb3⟩
      have HB3 := hq (below_trans HB2.o hb3)
      clear HAH hb3
      go_wp2_with fail
      go_ret2
      exact ⟨by rw [HR.o]; rfl, HB3.o⟩
end Go.Proofs.Ytccdmoogjcgcfaa
