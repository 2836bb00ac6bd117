/-
  WALKS: the document's Once, ahead, rows, Ahead of layer 23; rows beside each other; Short.
-/
import Derived.Test.YtccdmoogjcgcfaaOrR
namespace Go.Proofs.Ytccdmoogjcgcfaa
open Go.RowKit

theorem onceB_of {l : List Bs} (h256 : l.length ≤ 256) (h : ∀ a b (hb : b < l.length) (hab : a < b), l[b] ≠ l[a]) : onceB l = true := by
  rw [onceB_iff]
  refine ⟨h256, ?_⟩
  rw [List.nodup_iff_pairwise_ne, List.pairwise_iff_getElem]
  exact fun i j hi hj hij e => h i j hj hij e.symm
theorem onceB_not {l : List Bs} {a b : Nat} (hb : b < l.length) (hab : a < b) (e : l[b] = l[a]) : onceB l = false := by
  cases ho : onceB l with
  | false => rfl
  | true =>
    have := ((onceB_iff l).1 ho).2
    rw [List.nodup_iff_pairwise_ne, List.pairwise_iff_getElem] at this
    exact absurd e.symm (this a b (by omega) hb hab)

set_option maxHeartbeats 1000000 in
set_option maxRecDepth 1000000 in
theorem ronce_any (o : Option Addr) (cap : Nat) (l : List Bs) (w : World) (_hl : l.length ≤ cap) (_hc : cap ≤ maxLen) (hin : StrsIn w o l) :
    Calls Try.prog 15 #[.slice o l.length cap] w fun e w' => e = .returned (.bool (onceB l)) ∧ Below w.heap.size w w' := by
  have HIN := hq hin
  unfold maxLen at _hc
  clear hin
  by_cases h256 : l.length ≤ 256
  · have h256i : (l.length : Int) ≤ 256 := by omega
    have h256j : ¬ (256 : Int) < (l.length : Int) := by omega
    have HT := hq (onceB_of h256)
    have HF := hq (@onceB_not l)
    generalize onceB l = V at *
    go_enter Try.func15, Try.ntmps15
    go_wp2_with fail
    go_loopw [3] (fun i wr => ∃ k : Nat, k ≤ l.length ∧ i = .int .i64 (k : Int) ∧ Hq (∀ a b (hb : b < l.length) (hab : a < b), b < k → l[b] ≠ l[a]) ∧ Hq (Below w.heap.size w wr)) (fun i _ => l.length - (intOf i).toNat)
    case atStart => exact ⟨0, Nat.zero_le _, rfl, hq (fun a b hb hab hk => absurd hk (Nat.not_lt_zero _)), hq (Below.refl _ _)⟩
    case round =>
      obtain ⟨k, hk, rfl, hp, hbo⟩ := hrel
      by_cases h : k < l.length
      · have hkz : (k : Int) < (l.length : Int) := by omega
        clear HT
        go_wp2_with fail
        go_loopw [4] (fun i wz => ∃ q : Nat, q ≤ k ∧ i = .int .i64 (q : Int) ∧ Hq (∀ a (ha : a < l.length), a < q → l[k] ≠ l[a]) ∧ Hq (Below w.heap.size w wz)) (fun i _ => k - (intOf i).toNat)
        case atStart => exact ⟨0, Nat.zero_le _, rfl, hq (fun a ha h0 => absurd h0 (Nat.not_lt_zero _)), hbo⟩
        case round =>
          obtain ⟨q, hq1, rfl, hd, hb⟩ := hrel
          clear hbo
          by_cases hqk : q < k
          · have hql : q < l.length := by omega
            have hqz : (q : Int) < (l.length : Int) := by omega
            have hqkz : (q : Int) < (k : Int) := by omega
            obtain ⟨b, f, rfl, hcell⟩ := HIN.o k h
            obtain ⟨b', f', he, hcell'⟩ := HIN.o q hql
            obtain ⟨rfl, rfl⟩ : b = b' ∧ f = f' := by simpa using he
            have c0 := (hb.o.cell (cell_blk hcell)).trans hcell
            have c1 := (hb.o.cell (cell_blk hcell')).trans hcell'
            have HF2 := hq (fun e => HF.o h hqk e)
            have HD2 : Hq (l[k] ≠ l[q] → ∀ a (ha : a < l.length), a < q + 1 → l[k] ≠ l[a]) := hq (fun hne a ha h1 => by
              by_cases e : a = q
              · subst e; exact hne
              · exact hd.o a ha (by omega))
            clear hcell hcell' he hd HF HIN hp
            generalize l[k] = x at *
            generalize l[q] = y at *
            by_cases hxy : x = y
            · have HV := hq (HF2.o hxy)
              subst hxy
              clear HF2 HD2
              go_wp2_with fail
              go_region
              go_wp2_with fail
              go_ret
              exact ⟨by show Ending.returned (Value.bool false) = _; rw [HV.o], hb.o.drew⟩
            · have e1 : (x == y) = false := beq_eq_false_iff_ne.2 hxy
              have HD3 := hq (HD2.o hxy)
              clear HF2 HD2 hxy
              go_wp2_with fail
              go_region
              go_wp2_with fail
              go_roundw
              case rel => exact ⟨q + 1, hqk, int_eq (by omega), HD3, hq hb.o.drew⟩
              case measure => simp [intOf]; omega
          · have hqkz : ¬ (q : Int) < (k : Int) := by omega
            obtain rfl : q = k := by omega
            have HN : Hq (∀ a b (hb : b < l.length) (hab : a < b), b < q + 1 → l[b] ≠ l[a]) := hq (fun a b hb hab hk => by
              by_cases e : b = q
              · subst e; exact hd.o a (by omega) hab
              · exact hp.o a b hb hab (by omega))
            clear hd hp
            go_wp2_with fail
            go_roundw
            case rel => exact ⟨q + 1, h, int_eq (by omega), HN, hb⟩
            case measure => simp [intOf]; omega
      · have h' : ¬ (k : Int) < (l.length : Int) := by omega
        have HV := hq (HT.o (fun a b hb hab => hp.o a b hb hab (by omega)))
        clear hp HT HF
        go_wp2_with fail
        go_ret
        exact ⟨by show Ending.returned (Value.bool true) = _; rw [HV.o], hbo.o⟩
  · have h256j : (256 : Int) < (l.length : Int) := by omega
    have HON : Hq (onceB l = false) := hq (by unfold onceB; rw [decide_eq_false h256]; rfl)
    go_enter Try.func15, Try.ntmps15
    go_wp2_with fail
    go_ret
    exact ⟨by show Ending.returned (Value.bool false) = _; rw [HON.o], Below.refl _ _⟩

set_option maxHeartbeats 2000000 in
set_option maxRecDepth 1000000 in
theorem riahead_any (rb rl rr : SRow) (x y : Bs) (w : World) (h0 : rb.ok w) (h1 : rl.ok w) (h2 : rr.ok w) :
    Calls Try.prog 20 #[rb.v, rl.v, rr.v, .string (st x), .string (st y)] w fun e w' => e = .returned (aheadV (aheadM rb.l rl.l rr.l x y)) ∧ w' = w := by
  have H0 := hq (rsays_any rb.o rb.cap rb.l x y w h0.le h0.cp h0.rd)
  have H1 := hq (rsays_any rl.o rl.cap rl.l x y w h1.le h1.cp h1.rd)
  have H2 := hq (rsays_any rr.o rr.cap rr.l x y w h2.le h2.cp h2.rd)
  have k0 := hq (sayM_cases rb.l x y)
  have k1 := hq (sayM_cases rl.l x y)
  have k2 := hq (sayM_cases rr.l x y)
  have HA : Hq (aheadM rb.l rl.l rr.l x y = aheadI (sayM rb.l x y) (sayM rl.l x y) (sayM rr.l x y)) := hq rfl
  clear h0 h1 h2
  generalize sayM rb.l x y = s0 at *
  generalize sayM rl.l x y = s1 at *
  generalize sayM rr.l x y = s2 at *
  generalize aheadM rb.l rl.l rr.l x y = R at *
  unfold SRow.v
  go_enter Try.func20, Try.ntmps20
  go_wp2_with fail
  refine H0.o.mono ?_
  rintro e w1 ⟨rfl, hw1⟩
  rw [hw1]
  clear hw1 H0
  go_wp2_with fail
  refine H1.o.mono ?_
  rintro e w2 ⟨rfl, hw1⟩
  rw [hw1]
  clear hw1 H1
  go_wp2_with fail
  refine H2.o.mono ?_
  rintro e w3 ⟨rfl, hw1⟩
  rw [hw1]
  clear hw1 H2
  rcases k0.o with rfl | rfl | rfl <;> rcases k1.o with rfl | rfl | rfl <;> rcases k2.o with rfl | rfl | rfl
  all_goals
    clear k0 k1 k2
    go_wp2_with fail
    go_ret2
    exact ⟨by rw [HA.o]; rfl, rfl⟩

set_option maxHeartbeats 1000000 in
set_option maxRecDepth 1000000 in
theorem rrows_any (rb rl rr : SRow) (w : World) (h0 : rb.ok w) (h1 : rl.ok w) (h2 : rr.ok w) :
    Calls Try.prog 19 #[rb.v, rl.v, rr.v] w fun e w' => e = .returned (.bool (onceB rb.l && (onceB rl.l && onceB rr.l))) ∧ Below w.heap.size w w' := by
  have H0 := hq (fun W (hb : Below w.heap.size w W) => ronce_any rb.o rb.cap rb.l W h0.le h0.cp (h0.rd.grow hb))
  have H1 := hq (fun W (hb : Below w.heap.size w W) => ronce_any rl.o rl.cap rl.l W h1.le h1.cp (h1.rd.grow hb))
  have H2 := hq (fun W (hb : Below w.heap.size w W) => ronce_any rr.o rr.cap rr.l W h2.le h2.cp (h2.rd.grow hb))
  clear h0 h1 h2
  generalize onceB rb.l = b0 at *
  generalize onceB rl.l = b1 at *
  generalize onceB rr.l = b2 at *
  unfold SRow.v
  go_enter Try.func19, Try.ntmps19
  go_wp2_with fail
  refine (H0.o w (Below.refl _ _)).mono ?_
  rintro e w1 ⟨rfl, hb1⟩
  have HB1 := hq hb1
  clear hb1 H0
  go_wp2_with fail
  refine (H1.o w1 HB1.o).mono ?_
  rintro e w2 ⟨rfl, hb2⟩
  have HB2 := hq (below_trans HB1.o hb2)
  clear hb2 H1 HB1
  go_wp2_with fail
  refine (H2.o w2 HB2.o).mono ?_
  rintro e w3 ⟨rfl, hb3⟩
  have HB3 := hq (below_trans HB2.o hb3)
  clear hb3 H2 HB2
  cases b0 <;> cases b1
  all_goals
    go_wp2_with fail
    go_ret
    exact ⟨rfl, HB3.o⟩

set_option maxHeartbeats 1000000 in
set_option maxRecDepth 1000000 in
theorem rAhead_any (rb rl rr : SRow) (x y : Bs) (w : World) (h0 : rb.ok w) (h1 : rl.ok w) (h2 : rr.ok w) :
    Calls Try.prog 10 #[rb.v, rl.v, rr.v, .string (st x), .string (st y)] w fun e w' => e = .returned (aheadV (AheadM rb.l rl.l rr.l x y)) ∧ Below w.heap.size w w' := by
  have HR := hq (rrows_any rb rl rr w h0 h1 h2)
  have HI := hq (fun W (hb : Below w.heap.size w W) => riahead_any rb rl rr x y W (h0.grow hb) (h1.grow hb) (h2.grow hb))
  have HV : Hq (AheadM rb.l rl.l rr.l x y = if (onceB rb.l && (onceB rl.l && onceB rr.l)) = true ∧ x ≠ y then aheadM rb.l rl.l rr.l x y else (0, false)) := hq rfl
  clear h0 h1 h2
  generalize (onceB rb.l && (onceB rl.l && onceB rr.l)) = on at *
  generalize AheadM rb.l rl.l rr.l x y = R at *
  unfold SRow.v at *
  unfold aheadV at HI
  go_enter Try.func10, Try.ntmps10
  go_wp2_with fail
  refine HR.o.mono ?_
  rintro e w1 ⟨rfl, hb1⟩
  have HB1 := hq hb1
  clear hb1 HR
  cases on with
  | false =>
    have HRR : Hq (R = (0, false)) := hq (by rw [HV.o, if_neg (by simp)])
    clear HV HI
    go_wp2_with fail
    go_ret2
    exact ⟨by rw [HRR.o]; rfl, HB1.o⟩
  | true =>
    by_cases hxy : x = y
    · have HRR : Hq (R = (0, false)) := hq (by rw [HV.o, if_neg (fun h => h.2 hxy)])
      subst hxy
      clear HV HI
      go_wp2_with fail
      go_ret2
      exact ⟨by rw [HRR.o]; rfl, HB1.o⟩
    · have HRR : Hq (R = aheadM rb.l rl.l rr.l x y) := hq (by rw [HV.o, if_pos ⟨rfl, hxy⟩])
      have e1 : (x == y) = false := beq_eq_false_iff_ne.2 hxy
      clear HV hxy
      generalize aheadM rb.l rl.l rr.l x y = p at *
      obtain ⟨p1, p2⟩ := p
      simp only at HI
      go_wp2_with fail
      refine (HI.o w1 HB1.o).mono ?_
      rintro e w2 ⟨rfl, hw2⟩
      rw [hw2]
      clear HI hw2
      go_wp2_with fail
      go_ret2
      exact ⟨by rw [HRR.o]; rfl, HB1.o⟩
end Go.Proofs.Ytccdmoogjcgcfaa
