/-
  WALKS: the law OrderKeeps.
-/
import Derived.Test.YtccdmoogjcgcfaaOrB
namespace Go.Proofs.Ytccdmoogjcgcfaa
open Go.RowKit

/-- what is merged: as many, each once, of the names, and nothing goes against what is said -/
structure KeptV (lb ll lr l out : List Bs) : Prop where
  len : out.length = l.length
  once : onceB out = true
  mem : ∀ x ∈ out, x ∈ l
  say : ∀ i k (hi : i < out.length) (hk : k < i), ∃ c, AheadM lb ll lr (out[k]'(Nat.lt_trans hk hi)) out[i] = (c, true) ∧ (c = -1 ∨ c = 0)
theorem kept_of {lb ll lr l out : List Bs} (h : mergeV lb ll lr l = some out) : KeptV lb ll lr l out := by
  obtain ⟨ho, hk, hm⟩ := mergeV_some h
  unfold onceAll at ho
  simp only [Bool.and_eq_true] at ho
  obtain ⟨o1, o2, o3, o4⟩ := ho
  have hn4 := (onceB_iff l).1 o4
  have hp1 := mergeGo_perm (bef := befN lb ll lr) l.length (sortL l) out (by rw [sortL_len]; exact Nat.le_refl _) hm
  have hp : out.Perm l := hp1.trans (sortL_perm l)
  have hn : out.Nodup := hp.nodup_iff.2 hn4.2
  have hkeep := List.pairwise_iff_getElem.1 (mergeGo_keeps (bef := befN lb ll lr) l.length (sortL l) out (by rw [sortL_len]; exact Nat.le_refl _) (sortL_nodup hn4.2) hm)
  refine ⟨hp.length_eq, (onceB_iff out).2 ⟨by rw [hp.length_eq]; exact hn4.1, hn⟩, fun x hx => hp.mem_iff.1 hx, fun i k hi hki => ?_⟩
  have hkl : k < out.length := by omega
  have hne : out[k] ≠ out[i] := fun e => by
    have := nodup_ix hn hkl hi e
    omega
  have hs : (aheadM lb ll lr out[k] out[i]).2 = true := by
    obtain ⟨i', hi', e1⟩ := List.mem_iff_getElem.1 (hp.mem_iff.1 (List.getElem_mem hkl))
    obtain ⟨j', hj', e2⟩ := List.mem_iff_getElem.1 (hp.mem_iff.1 (List.getElem_mem hi))
    have hij : i' ≠ j' := fun e => by subst e; exact hne (e1.symm.trans e2)
    have g1 : l.getD i' [] = l[i'] := by simp [List.getD, hi']
    have g2 : l.getD j' [] = l[j'] := by simp [List.getD, hj']
    rcases Nat.lt_or_gt_of_ne hij with h1 | h1
    · have h2 := hk i' j' h1 hj'
      unfold okP at h2
      rw [g1, g2, e1, e2] at h2
      exact h2
    · have h2 := hk j' i' h1 hi'
      unfold okP at h2
      rw [g1, g2, e1, e2, aheadM_anti] at h2
      exact h2
  have hb := hkeep k i hkl hi hki
  unfold befN at hb
  have hb2 : (aheadM lb ll lr out[i] out[k]).1 ≠ -1 := of_decide_eq_false hb
  rw [aheadM_anti] at hb2
  refine ⟨(aheadM lb ll lr out[k] out[i]).1, ?_, ?_⟩
  · unfold AheadM
    rw [if_pos ⟨by rw [o1, o2, o3]; rfl, hne⟩, ← hs]
  · rcases aheadM_cases lb ll lr out[k] out[i] with h | h | h
    · exact .inl h
    · exact .inr h
    · rw [h] at hb2; exact absurd rfl hb2

set_option maxHeartbeats 4000000 in
set_option maxRecDepth 1000000 in
theorem orderKeeps_any (rb rl rr rn : SRow) (w : World) (h0 : rb.ok w) (h1 : rl.ok w) (h2 : rr.ok w) (h3 : rn.ok w) (z0 : Shorts rb.l) (z1 : Shorts rl.l) (z2 : Shorts rr.l) (z3 : Shorts rn.l) :
    Calls Try.prog 4 #[rb.v, rl.v, rr.v, rn.v] w fun e w' => e = .returned (.bool true) ∧ Below w.heap.size w w' := by
  have HS := hq (small_any w)
  have HSB := hq (fun W (hb : Below w.heap.size w W) => short_row' rb W (h0.grow hb) z0)
  have HSL := hq (fun W (hb : Below w.heap.size w W) => short_row' rl W (h1.grow hb) z1)
  have HSR := hq (fun W (hb : Below w.heap.size w W) => short_row' rr W (h2.grow hb) z2)
  have HSN := hq (fun W (hb : Below w.heap.size w W) => short_row' rn W (h3.grow hb) z3)
  obtain ⟨V, hV⟩ : ∃ V, mergeV rb.l rl.l rr.l rn.l = V := ⟨_, rfl⟩
  have HMA := hq (fun W (hb : Below w.heap.size w W) => merge_gen rb rl rr rn W (h0.grow hb) (h1.grow hb) (h2.grow hb) (h3.grow hb) z0 z1 z2 z3 hV)
  have HAC := hq (fun W (hb : Below w.heap.size w W) x y hx hy => ahead_any rb rl rr x y W (h0.grow hb) (h1.grow hb) (h2.grow hb) z0 z1 z2 hx hy)
  have HNK := hq (fun W (hb : Below w.heap.size w W) => h3.rd.grow hb)
  have HZ := hq z3
  have HKV : Hq (∀ out, V = some out → KeptV rb.l rl.l rr.l rn.l out) := hq (fun out h => kept_of (hV.trans h))
  clear hV
  have hnc := h3.le
  have hnp := h3.cp
  clear h0 h1 h2 h3 z0 z1 z2 z3
  unfold maxLen at hnp
  obtain ⟨bo, bc, b⟩ := rb
  obtain ⟨lo, lc, l⟩ := rl
  obtain ⟨ro, rc, r⟩ := rr
  obtain ⟨no, nc, n⟩ := rn
  simp only at hnc hnp HKV HNK HZ
  unfold SRow.v at HSB HSL HSR HSN HMA HAC ⊢
  simp only at HAC
  go_enter Try.func4, Try.ntmps4
  go_wp2_with fail
  refine HS.o.mono ?_
  rintro e w1 ⟨rfl, hb1⟩
  have HB1 := hq hb1
  clear hb1 HS
  go_wp2_with fail
  refine (HSB.o w1 HB1.o).mono ?_
  rintro e w2 ⟨⟨v1, rfl, _⟩, hw2⟩
  rw [hw2]
  clear hw2 HSB
  cases v1 with
  | false =>
    clear HMA HSN HSL HSR HAC
    go_wp2_with fail
    go_ret
    exact ⟨rfl, HB1.o⟩
  | true =>
  go_wp2_with fail
  refine (HSL.o w1 HB1.o).mono ?_
  rintro e w2 ⟨⟨v1, rfl, _⟩, hw2⟩
  rw [hw2]
  clear hw2 HSL
  cases v1 with
  | false =>
    clear HMA HSN HSR HAC
    go_wp2_with fail
    go_ret
    exact ⟨rfl, HB1.o⟩
  | true =>
  go_wp2_with fail
  refine (HSR.o w1 HB1.o).mono ?_
  rintro e w2 ⟨⟨v1, rfl, _⟩, hw2⟩
  rw [hw2]
  clear hw2 HSR
  cases v1 with
  | false =>
    clear HMA HSN HAC
    go_wp2_with fail
    go_ret
    exact ⟨rfl, HB1.o⟩
  | true =>
  go_wp2_with fail
  refine (HSN.o w1 HB1.o).mono ?_
  rintro e w2 ⟨⟨v1, rfl, _⟩, hw2⟩
  rw [hw2]
  clear hw2 HSN
  cases v1 with
  | false =>
    clear HMA HAC
    go_wp2_with fail
    go_ret
    exact ⟨rfl, HB1.o⟩
  | true =>
  by_cases hbig : 30 < n.length
  · have hz1 : (30 : Int) < (n.length : Int) := by omega
    clear HMA HAC
    go_wp2_with fail
    go_ret
    exact ⟨rfl, HB1.o⟩
  · have hz1 : ¬ (30 : Int) < (n.length : Int) := by omega
    go_wp2_with fail
    refine (HMA.o w1 HB1.o).mono ?_
    rintro e w2 ⟨⟨mo, mc, ml⟩, rfl, hal, hak, hb2⟩
    simp only at hal
    have HB2 := hq (below_trans HB1.o hb2)
    have HAK := hq hak
    clear hb2 hak HMA
    dsimp only
    cases V with
    | none =>
      obtain rfl : ml = [] := hal
      clear HAC HKV HAK
      go_wp2_with fail
      go_ret
      exact ⟨rfl, HB2.o⟩
    | some out =>
      obtain rfl : ml = out := hal
      have HK := hq (HKV.o ml rfl)
      clear HKV
      have hlen : ((ml.length : Int) == (n.length : Int)) = true := by rw [HK.o.len]; exact beq_self_eq_true _
      have hlen' : ((ml.length : Int) != (n.length : Int)) = false := by rw [HK.o.len]; exact bne_self_eq_false _
      have HSH : Hq (Shorts ml) := hq (fun x hx => HZ.o x (HK.o.mem x hx))
      have HON := hq (once_row' ⟨mo, mc, ml⟩ w2 HAK.o HSH.o HK.o.once)
      unfold SRow.v at HON
      simp only at HON
      have hml : ml.length ≤ 30 := by have := HK.o.len; omega
      go_wp2_with fail
      refine HON.o.mono ?_
      rintro e w3 ⟨rfl, hb3⟩
      have HB3 := hq (below_trans HB2.o hb3)
      have HAK3 := hq (HAK.o.grow hb3)
      clear hb3 HON HAK
      have HMEM := hq HK.o.mem
      have HSAY := hq HK.o.say
      clear HK hlen hlen'
      go_wp2_with fail
      go_loopw [13] (fun i wr => ∃ k : Nat, k ≤ ml.length ∧ i = .int .i64 (k : Int) ∧ Hq (Below w3.heap.size w3 wr)) (fun i _ => ml.length - (intOf i).toNat)
      case atStart => exact ⟨0, Nat.zero_le _, rfl, hq (Below.refl _ _)⟩
      case round =>
        obtain ⟨i, hi, rfl, hbw⟩ := hrel
        by_cases hil : i < ml.length
        · have hiz : (i : Int) < (ml.length : Int) := by omega
          have HB4 := hq (below_trans HB3.o hbw.o)
          have HAK4 := hq (HAK3.o.grow hbw.o)
          have HNR := hq (HNK.o wr HB4.o)
          obtain ⟨b1, f1, hb1', hc1⟩ := HAK4.o.rd i hil
          simp only at hb1' hc1
          subst hb1'
          have HC1 := hq hc1
          clear hc1
          go_wp2_with fail
          go_loopw [15, 14] (fun a c wz => ∃ (q : Nat) (v : Bool), q ≤ n.length ∧ a = .int .i64 (q : Int) ∧ c = .bool v ∧ Hq (v = true ∨ ∀ p (hp : p < n.length), p < q → n[p] ≠ ml[i]) ∧ Hq (Below wr.heap.size wr wz)) (fun a _ _ => n.length - (intOf a).toNat)
          case atStart => exact ⟨0, false, Nat.zero_le _, rfl, rfl, hq (.inr fun p hp h => absurd h (Nat.not_lt_zero _)), hq (Below.refl _ _)⟩
          case round =>
            obtain ⟨q, v, hq1, rfl, rfl, hin, hbz⟩ := hrel
            by_cases hqn : q < n.length
            · have hqz : (q : Int) < (n.length : Int) := by omega
              obtain ⟨b2, f2, hb2', hc2⟩ := HNR.o q hqn
              subst hb2'
              have c1 := (hbz.o.cell (cell_blk HC1.o)).trans HC1.o
              have c2 := (hbz.o.cell (cell_blk hc2)).trans hc2
              have HN1 : Hq (n[q] = ml[i] ∨ (v = true ∨ ∀ p (hp : p < n.length), p < q + 1 → n[p] ≠ ml[i])) := hq (by
                by_cases e : n[q] = ml[i]
                · exact .inl e
                · refine .inr (hin.o.imp id fun h p hp hpq => ?_)
                  by_cases e2 : p = q
                  · subst e2; exact e
                  · exact h p hp (by omega))
              have HN0 : Hq (∀ v' : Bool, (v' = true ∨ n[q] ≠ ml[i]) → (v' = true ∨ v = v') → (v' = true ∨ ∀ p (hp : p < n.length), p < q + 1 → n[p] ≠ ml[i])) := hq (fun v' h1 h2 => by
                rcases h1 with h1 | h1
                · exact .inl h1
                · rcases h2 with h2 | h2
                  · exact .inl h2
                  · rcases HN1.o with e | e
                    · exact absurd e h1
                    · rw [← h2]; exact e)
              have HBZ := hbz
              clear hin HN1 hc2
              generalize n[q] = x at *
              generalize hy : ml[i] = y at *
              cases v with
              | true =>
                clear HN0
                go_wp2_with fail
                go_quiet (fail)
                go_wp2_with fail
                go_roundw
                case rel => exact ⟨q + 1, true, by omega, int_eq (by omega), rfl, hq (.inl rfl), hq (below_drawn' HBZ.o _)⟩
                case measure => simp [intOf]; omega
              | false =>
                by_cases hxy : x = y
                · subst hxy
                  clear HN0
                  go_wp2_with fail
                  go_quiet (fail)
                  go_wp2_with fail
                  go_roundw
                  case rel => exact ⟨q + 1, true, by omega, int_eq (by omega), rfl, hq (.inl rfl), hq (below_drawn' HBZ.o _)⟩
                  case measure => simp [intOf]; omega
                · have e1 : (x == y) = false := beq_eq_false_iff_ne.2 hxy
                  have HV := hq (HN0.o false (.inr hxy) (.inr rfl))
                  clear HN0
                  go_wp2_with fail
                  go_quiet (fail)
                  go_wp2_with fail
                  go_roundw
                  case rel => exact ⟨q + 1, false, by omega, int_eq (by omega), rfl, HV, hq (below_drawn' HBZ.o _)⟩
                  case measure => simp [intOf]; omega
            · have hqz : ¬ (q : Int) < (n.length : Int) := by omega
              obtain rfl : v = true := by
                rcases hin.o with h | h
                · exact h
                · obtain ⟨p, hp, e⟩ := List.mem_iff_getElem.1 (HMEM.o _ (List.getElem_mem hil))
                  exact absurd e (h p hp (by omega))
              have HB5 := hq (below_trans hbw.o hbz.o)
              have HB6 := hq (below_trans HB4.o hbz.o)
              have HAK5 := hq (HAK4.o.grow hbz.o)
              clear hin HNR HC1 HMEM
              go_wp2_with fail
              go_loopw [16] (fun a wq => ∃ k : Nat, k ≤ i ∧ a = .int .i64 (k : Int) ∧ Hq (Below wr.heap.size wr wq)) (fun a _ => i - (intOf a).toNat)
              case atStart => exact ⟨0, Nat.zero_le _, rfl, hq (Below.refl _ _)⟩
              case round =>
                obtain ⟨k, hk, rfl, hbq⟩ := hrel
                by_cases hki : k < i
                · have hkz : (k : Int) < (i : Int) := by omega
                  have hkl : k < ml.length := by omega
                  have hklz : (k : Int) < (ml.length : Int) := by omega
                  have HAK6 := HAK5.o.grow hbq.o
                  obtain ⟨b1, f1, hb1', hc1⟩ := HAK6.rd i hil
                  obtain ⟨b2, f2, hb2', hc2⟩ := HAK6.rd k hkl
                  simp only at hb1' hc1 hb2' hc2
                  cases hb1'
                  cases hb2'
                  obtain ⟨c, hc, hcc⟩ := HSAY.o i k hil hki
                  have HAX := hq (fun W (hW : Below w.heap.size w W) => HAC.o W hW ml[k] ml[i] (HSH.o _ (List.getElem_mem hkl)) (HSH.o _ (List.getElem_mem hil)))
                  unfold aheadV at HAX
                  rw [hc] at HAX
                  simp only at HAX
                  have HB7 := hq (below_trans HB6.o hbq.o)
                  clear hc HAK6
                  generalize ml[i] = y at *
                  generalize ml[k] = x at *
                  go_upto_region 23 with fail
                  have hcl := And.intro (Below.refl wr.heap.size wr).drew (And.intro hc1 hc2)
                  go_region_held3 (fun W => Below wr.heap.size wr W ∧ W.cell? ⟨b1, f1 + i, none⟩ = some (.string (st y)) ∧ W.cell? ⟨b1, f1 + k, none⟩ = some (.string (st x)))
                    (first | exact ⟨(Below.refl _ _).drew, hc1, hc2⟩ | exact hT2)
                    ((go_at_call 9; refine (HAX.o _ (below_trans HB7.o (And.left (by assumption)))).mono ?_; rintro e' w9 ⟨rfl, hb9⟩; have hT2 : Below wr.heap.size wr w9 ∧ w9.cell? ⟨b1, f1 + i, none⟩ = some (.string (st y)) ∧ w9.cell? ⟨b1, f1 + k, none⟩ = some (.string (st x)) := read_two (by assumption) hb9))
                  have HB9 := hq (below_trans hbq.o hT2.1)
                  clear hT2 hcl hc1 hc2 HAX HB7
                  rcases hcc with rfl | rfl
                  all_goals
                    go_wp2_with fail
                    go_roundw
                    case rel => exact ⟨k + 1, hki, int_eq (by omega), HB9⟩
                    case measure => simp [intOf]; omega
                · have hkz : ¬ (k : Int) < (i : Int) := by omega
                  have HB7 := hq (below_trans HB5.o hbq.o)
                  go_wp2_with fail
                  go_roundw
                  case rel => exact ⟨i + 1, hil, int_eq (by omega), HB7⟩
                  case measure => simp [intOf]; omega
        · have hiz : ¬ (i : Int) < (ml.length : Int) := by omega
          have HBW := hq (below_trans HB3.o hbw.o)
          go_wp2_with fail
          go_ret
          exact ⟨rfl, HBW.o⟩
end Go.Proofs.Ytccdmoogjcgcfaa
