/-
  WALKS: the document's Merge of layer 23.
-/
import Derived.Test.YtccdmoogjcgcfaaOrE
import Derived.IntWalk
namespace Go.Proofs.Ytccdmoogjcgcfaa
open Go.RowKit

theorem below_drew' {w w' : World} (h : Below w.heap.size w w') : Below w.heap.size w w'.drew := h.drew
theorem mergeV_none_once {lb ll lr l : List Bs} (h : onceAll lb ll lr l = false) : mergeV lb ll lr l = none := by
  unfold mergeV
  rw [if_neg (fun h' => by rw [h] at h'; exact absurd h'.1 (by simp))]
theorem mergeV_none_ok {lb ll lr l : List Bs} (h : ¬ okAll lb ll lr l) : mergeV lb ll lr l = none := by
  unfold mergeV
  rw [if_neg (fun h' => h h'.2)]
theorem mergeV_all {lb ll lr l : List Bs} (h1 : onceAll lb ll lr l = true) (h2 : okAll lb ll lr l) : mergeV lb ll lr l = mergeAll lb ll lr l := by
  unfold mergeV
  rw [if_pos ⟨h1, h2⟩]
set_option maxHeartbeats 8000000 in
set_option maxRecDepth 1000000 in
theorem rmerge_any (rb rl rr rn : SRow) (w : World) (h0 : rb.ok w) (h1 : rl.ok w) (h2 : rr.ok w) (h3 : rn.ok w) :
    Calls Try.prog 12 #[rb.v, rl.v, rr.v, rn.v] w fun e w' => ∃ r : SRow, e = .returned (.tuple #[r.v, .bool (mergeV rb.l rl.l rr.l rn.l).isSome]) ∧ r.l = (mergeV rb.l rl.l rr.l rn.l).getD [] ∧ r.ok w' ∧ Below w.heap.size w w' := by
  have HR := hq (rrows_any rb rl rr w h0 h1 h2)
  have HO := hq (fun W (hb : Below w.heap.size w W) => ronce_any rn.o rn.cap rn.l W h3.le h3.cp (h3.rd.grow hb))
  have HI := hq (fun W x y (hb : Below w.heap.size w W) => riahead_any rb rl rr x y W (h0.grow hb) (h1.grow hb) (h2.grow hb))
  have HNK := hq (fun W (hb : Below w.heap.size w W) => h3.grow hb)
  have hnc := h3.le
  have hnp := h3.cp
  unfold maxLen at hnp
  clear h0 h1 h2 h3
  obtain ⟨bo, bc, lb⟩ := rb
  obtain ⟨lo, lc, ll⟩ := rl
  obtain ⟨ro, rc, lr⟩ := rr
  obtain ⟨no, nc, n⟩ := rn
  simp only at hnc hnp HO ⊢
  have HPN : Hq (∀ W, mergeV lb ll lr n = none → Below w.heap.size w W → ∃ r : SRow, Ending.returned (.tuple #[.slice none 0 0, .bool false]) = .returned (.tuple #[r.v, .bool (mergeV lb ll lr n).isSome]) ∧ r.l = (mergeV lb ll lr n).getD [] ∧ r.ok W ∧ Below w.heap.size w W) := hq (fun W h hb => ⟨⟨none, 0, []⟩, by rw [h]; rfl, by rw [h]; rfl, nil_ok _, hb⟩)
  have HPS : Hq (∀ W (r : SRow), mergeV lb ll lr n = some r.l → r.ok W → Below w.heap.size w W → ∃ r' : SRow, Ending.returned (.tuple #[r.v, .bool true]) = .returned (.tuple #[r'.v, .bool (mergeV lb ll lr n).isSome]) ∧ r'.l = (mergeV lb ll lr n).getD [] ∧ r'.ok W ∧ Below w.heap.size w W) := hq (fun W r h hr hb => ⟨r, by rw [h]; rfl, by rw [h]; rfl, hr, hb⟩)
  have HV0 := hq (@mergeV_none_once lb ll lr n)
  have HV1 := hq (@mergeV_none_ok lb ll lr n)
  have HV2 := hq (@mergeV_all lb ll lr n)
  generalize hP : (fun (e : Ending) (w' : World) => ∃ r : SRow, e = .returned (.tuple #[r.v, .bool (mergeV lb ll lr n).isSome]) ∧ r.l = (mergeV lb ll lr n).getD [] ∧ r.ok w' ∧ Below w.heap.size w w') = P
  have HP0 : Hq (∀ W, mergeV lb ll lr n = none → Below w.heap.size w W → P (.returned (.tuple #[.slice none 0 0, .bool false])) W) := hq (by subst hP; exact HPN.o)
  have HP1 : Hq (∀ W (r : SRow), mergeV lb ll lr n = some r.l → r.ok W → Below w.heap.size w W → P (.returned (.tuple #[r.v, .bool true])) W) := hq (by subst hP; exact HPS.o)
  clear hP HPN HPS
  generalize mergeV lb ll lr n = V at *
  unfold SRow.v at HR HI HP1 ⊢
  simp only at HR HI
  unfold onceAll at HV0 HV2
  generalize hoa : (onceB lb && (onceB ll && onceB lr)) = oa at HR
  have HOA := hq hoa
  clear hoa
  generalize hon : onceB n = on at HO
  have HON := hq hon
  clear hon
  unfold aheadV at HI
  go_enter Try.func12, Try.ntmps12
  go_wp2_with fail
  refine HR.o.mono ?_
  rintro e w1 ⟨rfl, hb1⟩
  have HB1 := hq hb1
  clear hb1 HR
  go_wp2_with fail
  refine (HO.o w1 HB1.o).mono ?_
  rintro e w2 ⟨rfl, hb2⟩
  have HB2 := hq (below_trans HB1.o hb2)
  clear hb2 HO HB1
  cases oa with
  | false =>
    have HV := hq (HP0.o w2 (HV0.o (by rw [← Bool.and_assoc ,← Bool.and_assoc, Bool.and_assoc (onceB lb), HOA.o]; rfl)) HB2.o)
    clear HP0 HP1 HI
    go_wp2_with fail
    first | exact HV.o | (go_ret2; exact HV.o) | (go_ret3; exact HV.o)
  | true =>
  cases on with
  | false =>
    have HV := hq (HP0.o w2 (HV0.o (by rw [HON.o]; simp)) HB2.o)
    clear HP0 HP1 HI
    go_wp2_with fail
    first | exact HV.o | (go_ret2; exact HV.o) | (go_ret3; exact HV.o)
  | true =>
  have HALL : Hq ((onceB lb && (onceB ll && (onceB lr && onceB n))) = true) := hq (by
    have h := HOA.o
    rw [HON.o, Bool.and_true]
    exact h)
  have HND := hq ((onceB_iff n).1 HON.o)
  have h256 : n.length ≤ 256 := HND.o.1
  clear HOA HON HV0
  have HNR := hq (HNK.o w2 HB2.o)
  go_wp2_with fail
  go_loopw [12] (fun i wr => ∃ k : Nat, k ≤ n.length ∧ i = .int .i64 (k : Int) ∧ Hq (∀ a b, a < b → b < k → okP lb ll lr n a b = true) ∧ Hq (Below w2.heap.size w2 wr)) (fun i _ => n.length - (intOf i).toNat)
  case atStart => exact ⟨0, Nat.zero_le _, rfl, hq (fun a b _ h => absurd h (Nat.not_lt_zero _)), hq (Below.refl _ _)⟩
  case round =>
    obtain ⟨i, hi, rfl, hok, hb⟩ := hrel
    by_cases hil : i < n.length
    · have hiz : (i : Int) < (n.length : Int) := by omega
      clear HP1 HV2
      go_wp2_with fail
      go_loopw [13] (fun i' wz => ∃ k : Nat, k ≤ i ∧ i' = .int .i64 (k : Int) ∧ Hq (∀ a, a < k → okP lb ll lr n a i = true) ∧ Hq (Below w2.heap.size w2 wz)) (fun i' _ => i - (intOf i').toNat)
      case atStart => exact ⟨0, Nat.zero_le _, rfl, hq (fun a h => absurd h (Nat.not_lt_zero _)), hb⟩
      case round =>
        obtain ⟨k, hk, rfl, hokk, hbz⟩ := hrel
        clear hb
        by_cases hki : k < i
        · have hkz : (k : Int) < (i : Int) := by omega
          have hkl : k < n.length := by omega
          have hklz : (k : Int) < (n.length : Int) := by omega
          have HNR2 := HNR.o.grow hbz.o
          obtain ⟨b1, f1, hb1', c0⟩ := HNR2.rd i hil
          obtain ⟨b2, f2, hb2', c1⟩ := HNR2.rd k hkl
          simp only at hb1' c0 hb2' c1
          subst hb1'
          cases hb2'
          have HAX := hq (fun W (hW : Below w.heap.size w W) => HI.o W n[i] n[k] hW)
          have HOP : Hq (okP lb ll lr n k i = (aheadM lb ll lr n[i] n[k]).2) := hq (by
            have g1 : n.getD k [] = n[k] := by simp [List.getD, hkl]
            have g2 : n.getD i [] = n[i] := by simp [List.getD, hil]
            unfold okP
            rw [g1, g2, aheadM_anti lb ll lr n[i] n[k]])
          have HBZ := hq (below_trans HB2.o hbz.o)
          have hbzz := hbz.o
          clear HNR2
          generalize n[i] = x at *
          generalize n[k] = y at *
          generalize aheadM lb ll lr x y = p at *
          obtain ⟨p1, p2⟩ := p
          simp only at HAX HOP
          go_upto_region 11 with fail
          have hcl := And.intro (Below.refl wr.heap.size wr).drew (And.intro c0 c1)
          go_region_held3 (fun W => Below wr.heap.size wr W ∧ W.cell? ⟨b1, f1 + i, none⟩ = some (.string (st x)) ∧ W.cell? ⟨b1, f1 + k, none⟩ = some (.string (st y)))
            (first | exact ⟨(Below.refl _ _).drew, c0, c1⟩ | exact hT2)
            ((go_at_call 20; refine (HAX.o _ (below_trans HBZ.o (And.left (by assumption)))).mono ?_; rintro e' w9 ⟨rfl, hw9⟩; have hT2 : Below wr.heap.size wr w9 ∧ w9.cell? ⟨b1, f1 + i, none⟩ = some (.string (st x)) ∧ w9.cell? ⟨b1, f1 + k, none⟩ = some (.string (st y)) := (by rw [hw9]; assumption)))
          have HB9 := hq hbz.o.drew
          clear hT2 hcl c0 c1 HAX
          cases p2 with
          | false =>
            have HV := hq (HP0.o _ (HV1.o (fun hA => by
              have h1 := hA k i hki hil
              rw [HOP.o] at h1
              cases h1)) (below_trans HB2.o HB9.o))
            clear HP0 HOP HV1
            go_wp2_with fail
            first | exact HV.o | (go_ret2; exact HV.o) | (go_ret3; exact HV.o)
          | true =>
            have HOK2 : Hq (∀ a, a < k + 1 → okP lb ll lr n a i = true) := hq (fun a ha => by
              by_cases e : a = k
              · rw [e]; exact HOP.o
              · exact hokk.o a (by omega))
            clear hokk HOP
            go_wp2_with fail
            go_roundw
            case rel => exact ⟨k + 1, hki, int_eq (by omega), HOK2, HB9⟩
            case measure => simp [intOf]; omega
        · have hkz : ¬ (k : Int) < (i : Int) := by omega
          obtain rfl : k = i := by omega
          have HN : Hq (∀ a b, a < b → b < k + 1 → okP lb ll lr n a b = true) := hq (fun a b hab hb => by
            by_cases e : b = k
            · subst e; exact hokk.o a hab
            · exact hok.o a b hab (by omega))
          clear hok hokk
          go_wp2_with fail
          go_roundw
          case rel => exact ⟨k + 1, hil, int_eq (by omega), HN, hbz⟩
          case measure => simp [intOf]; omega
    · have hiz : ¬ (i : Int) < (n.length : Int) := by omega
      have HVA := hq (HV2.o HALL.o (fun a b hab hb => hok.o a b hab (by omega)))
      have HB3 := hq (below_trans HB2.o hb.o)
      have HNK3 := hq (HNK.o wr HB3.o)
      clear HV1 HV2 hok hb HNR HNK HB2 HALL
      go_upto_region 14 with fail
      go_wp2_with (at_builtin; refine wpList_copyrow rfl _ _ rfl (g := wr.heap.size) (HNK3.o.grow (below_alloc wr _)) (by omega) rfl rfl ?_)
      intro g1 cap1 w4 hg1 hok1 hb4
      have hb4' : Below (wr.alloc (.cells #[] 9)).heap.size (wr.alloc (.cells #[] 9)) w4 := by rw [World.size_alloc]; exact hb4
      have hbel4 := below_trans HB3.o (below_trans (below_alloc wr _) hb4')
      have HR0 : Hq (Rst w (some ⟨g1, 0, none⟩) cap1 n (.slice none 0 0) [] w4) := hq ⟨hok1, World.ownsRow_nil _ _ _ _, hbel4, fun a _ e => by
        have e2 : (none : Option Nat) = some a.block := e
        cases e2⟩
      have hnd := HND.o.2
      have HS0 := hq (sortL_perm n).symm
      have HS1 : Hq ((sortL n).Pairwise fun x y => x ≤ y) := hq ((List.pairwise_mergeSort (le := fun x y : Bs => decide (x ≤ y)) (fun a b c h1 h2 => decide_eq_true (List.le_trans (of_decide_eq_true h1) (of_decide_eq_true h2))) (fun a b => by
        rcases List.le_total a b with h | h
        · simp [h]
        · simp [h]) n).imp fun h => of_decide_eq_true h)
      have HS2 := hq (sortL_nodup hnd)
      have HVB : Hq (V = (mergeGo (befN lb ll lr) (sortL n).length (sortL n)).map fun r => [] ++ r) := hq (by
        rw [HVA.o, sortL_len]
        unfold mergeAll
        cases mergeGo (befN lb ll lr) n.length (sortL n) <;> rfl)
      have HBF : Hq (∀ x y, befN lb ll lr x y = decide ((aheadM lb ll lr x y).1 = -1)) := hq (fun x y => rfl)
      clear hg1 hok1 hb4 hb4' hbel4 hnd HVA HND HNK3 HB3
      generalize sortL n = s0 at *
      generalize befN lb ll lr = bef at *
      go_wp2_with fail
      go_loopw [16, 17] (fun rv ov wx => ∃ (o : Option Addr) (cap : Nat) (rest sr done : List Bs), rv = .slice o rest.length cap ∧ Hq (Rst w o cap rest ov done wx) ∧ Hq (rest.Perm sr) ∧ Hq (sr.Pairwise fun x y => x ≤ y) ∧ Hq sr.Nodup ∧ Hq (V = (mergeGo bef sr.length sr).map fun r => done ++ r) ∧ done.length + rest.length ≤ 256) (fun rv _ _ => lenOfV rv)
      case atStart => exact ⟨_, _, _, _, _, rfl, HR0, HS0, HS1, HS2, HVB, by simp; omega⟩
      case round =>
        obtain ⟨o, cap, rest, sr, done, rfl, hR, hperm, hsort, hnod, hV, h256'⟩ := hrel
        clear HR0 HS0 HS1 HS2 HVB
        by_cases h0 : 0 < rest.length
        · have h0z : (0 : Int) < (rest.length : Int) := by omega
          have hrl : rest.length ≤ 256 := by omega
          go_wp2_with fail
          go_loopw [18, 19] (fun bv iv wz => ∃ (i : Nat) (q : Int), i ≤ rest.length ∧ iv = .int .i64 (i : Int) ∧ bv = .int .i64 q ∧ Hq (BestAt bef rest i q) ∧ Hq (Below wr.heap.size wr wz)) (fun _ iv _ => rest.length - (intOf iv).toNat)
          case atStart => exact ⟨0, -1, Nat.zero_le _, rfl, rfl, hq best_0, hq (Below.refl _ _)⟩
          case round =>
            obtain ⟨i, q, hi, rfl, rfl, hbest, hbz⟩ := hrel
            have hR2 := hq (hR.o.grow hbz.o)
            by_cases hil : i < rest.length
            · have hiz : (i : Int) < (rest.length : Int) := by omega
              go_wp2_with fail
              go_loopw [20, 21] (fun fv kv wq => ∃ k : Nat, k ≤ rest.length ∧ kv = .int .i64 (k : Int) ∧ fv = .bool (freeTo bef rest rest[i] k) ∧ Hq (Below wr.heap.size wr wq)) (fun _ kv _ => rest.length - (intOf kv).toNat)
              case atStart => exact ⟨0, Nat.zero_le _, rfl, rfl, hq (Below.refl _ _)⟩
              case round =>
                obtain ⟨k, hk, rfl, rfl, hbq⟩ := hrel
                have HRD := hR2.o.rd.rd
                have HBW := hR2.o.bl
                by_cases hkl : k < rest.length
                · have hkz : (k : Int) < (rest.length : Int) := by omega
                  obtain ⟨b1, f1, hb1', c1⟩ := HRD i hil
                  obtain ⟨b2, f2, hb2', c0⟩ := HRD k hkl
                  simp only at hb1' c0 hb2' c1
                  subst hb1'
                  cases hb2'
                  have c0' := (hbq.o.cell (cell_blk c0)).trans c0
                  have c1' := (hbq.o.cell (cell_blk c1)).trans c1
                  have HAX := hq (fun W (hW : Below w.heap.size w W) => HI.o W rest[k] rest[i] hW)
                  have HF := hq (freeTo_step (bef := bef) rest[i] hkl)
                  have HFB := hq (HBF.o rest[k] rest[i])
                  have HCS := hq (aheadM_cases lb ll lr rest[k] rest[i])
                  have HKI : Hq (if k = i then (rest[k] == rest[i]) = true else (rest[k] == rest[i]) = false) := hq (by
                    by_cases e : k = i
                    · rw [if_pos e]; subst e; exact beq_self_eq_true _
                    · rw [if_neg e]
                      refine beq_eq_false_iff_ne.2 fun e2 => e ?_
                      exact nodup_ix ((hperm.o.nodup_iff).2 hnod.o) hkl hil e2)
                  have HBQ := hq (HBW.trans (hbq.o.mono HBW.size))
                  clear c0 c1 HRD HBW
                  generalize freeTo bef rest rest[i] k = fk at *
                  generalize hfk1 : freeTo bef rest rest[i] (k + 1) = fk1 at *
                  generalize hx : rest[k] = x at *
                  generalize hy : rest[i] = y at *
                  clear hx hy
                  generalize bef x y = bxy at *
                  generalize (x == y) = exy at *
                  generalize aheadM lb ll lr x y = p at *
                  obtain ⟨p1, p2⟩ := p
                  simp only at HAX HFB HCS
                  go_upto_region 25 with fail
                  have hcl := And.intro (Below.refl wr.heap.size wr).drew (And.intro c0' c1')
                  go_region_held3 (fun W => Below wr.heap.size wr W ∧ W.cell? ⟨b1, f1 + k, none⟩ = some (.string (st x)) ∧ W.cell? ⟨b1, f1 + i, none⟩ = some (.string (st y)))
                    (first | exact ⟨(Below.refl _ _).drew, c0', c1'⟩ | exact hT2)
                    ((go_at_call 20; refine (HAX.o _ (below_trans HBQ.o (And.left (by assumption)))).mono ?_; rintro e' w9 ⟨rfl, hw9⟩; have hT2 : Below wr.heap.size wr w9 ∧ w9.cell? ⟨b1, f1 + k, none⟩ = some (.string (st x)) ∧ w9.cell? ⟨b1, f1 + i, none⟩ = some (.string (st y)) := (by rw [hw9]; assumption)))
                  have HB9 := hq hbq.o.drew
                  clear hT2 hcl c0' c1' HAX HBQ
                  obtain rfl := HFB.o
                  have HFK : Hq (freeTo bef rest y (k + 1) = (fk && (exy || !decide (p1 = -1)))) := hq (hfk1.trans HF.o)
                  clear HFB HF hfk1
                  by_cases hki : k = i
                  · subst hki
                    have hex : exy = true := by have h := HKI.o; rw [if_pos rfl] at h; exact h
                    subst hex
                    clear HKI
                    rcases HCS.o with rfl | rfl | rfl <;> cases fk
                    all_goals
                      clear HCS
                      go_wp2_with fail
                      go_roundw
                      case rel => exact ⟨k + 1, hkl, int_eq (by omega), by rw [HFK.o]; first | rfl | simp, HB9⟩
                      case measure => simp [intOf]; omega
                  · have hex : exy = false := by have h := HKI.o; rw [if_neg hki] at h; exact h
                    have hkiz : ((k : Int) == (i : Int)) = false := beq_eq_false_iff_ne.2 (by omega)
                    have hkiz2 : ¬ (k : Int) = (i : Int) := by omega
                    subst hex
                    clear HKI
                    rcases HCS.o with rfl | rfl | rfl <;> cases fk
                    all_goals
                      clear HCS
                      go_wp2_with fail
                      go_roundw
                      case rel => exact ⟨k + 1, hkl, int_eq (by omega), by rw [HFK.o]; first | rfl | simp, HB9⟩
                      case measure => simp [intOf]; omega
                · have hkz : ¬ (k : Int) < (rest.length : Int) := by omega
                  obtain rfl : k = rest.length := by omega
                  have HBK := hq (below_trans hbz.o hbq.o)
                  have HFA := hq (freeTo_all (bef := bef) (rest := rest) rest[i])
                  rw [HFA.o]
                  have HB1 := hbest
                  clear HFA hbz
                  cases hfr : free bef rest rest[i] with
                  | false =>
                    have HN := hq (best_skip HB1.o hil hfr)
                    clear hfr HB1 hbest
                    go_wp2_with fail
                    go_quiet (fail)
                    go_wp2_with fail
                    go_roundw
                    case rel => exact ⟨i + 1, q, hil, int_eq (by omega), rfl, HN, hq (below_drawn' HBK.o _)⟩
                    case measure => simp [intOf]; omega
                  | true =>
                    rcases best_cases HB1.o with rfl | ⟨b, hb, rfl⟩
                    · have HN := hq (best_take HB1.o hil hfr (fun b hb e => absurd e (by omega)))
                      clear hfr HB1 hbest
                      go_wp2_with fail
                      go_quiet (fail)
                      go_wp2_with fail
                      go_roundw
                      case rel => exact ⟨i + 1, (i : Int), hil, int_eq (by omega), rfl, HN, hq (below_drawn' HBK.o _)⟩
                      case measure => simp [intOf]; omega
                    · have hbz0 : ¬ (b : Int) < 0 := by omega
                      have hblz : (b : Int) < (rest.length : Int) := by omega
                      obtain ⟨b1, f1, hb1', c1⟩ := HRD i hil
                      obtain ⟨b2, f2, hb2', c0⟩ := HRD b hb
                      simp only at hb1' c0 hb2' c1
                      subst hb1'
                      cases hb2'
                      have c0' := (hbq.o.cell (cell_blk c0)).trans c0
                      have c1' := (hbq.o.cell (cell_blk c1)).trans c1
                      cases hless : Op.bytesLess rest[i] rest[b] with
                      | true =>
                        have HN := hq (best_take HB1.o hil hfr (fun b' hb' e => by
                          obtain rfl : b = b' := by omega
                          exact hless))
                        clear hfr HB1 hbest c0 c1 HRD
                        generalize hx : rest[i] = x at *
                        generalize hy : rest[b] = y at *
                        clear hx hy
                        go_wp2_with fail
                        go_quiet (fail)
                        go_wp2_with fail
                        go_roundw
                        case rel => exact ⟨i + 1, (i : Int), hil, int_eq (by omega), rfl, HN, hq (below_drawn' HBK.o _)⟩
                        case measure => simp [intOf]; omega
                      | false =>
                        have HN := hq (best_keep HB1.o hil hb hless)
                        clear hfr HB1 hbest c0 c1 HRD
                        generalize hx : rest[i] = x at *
                        generalize hy : rest[b] = y at *
                        clear hx hy
                        go_wp2_with fail
                        go_quiet (fail)
                        go_wp2_with fail
                        go_roundw
                        case rel => exact ⟨i + 1, (b : Int), hil, int_eq (by omega), rfl, HN, hq (below_drawn' HBK.o _)⟩
                        case measure => simp [intOf]; omega
            · have hiz : ¬ (i : Int) < (rest.length : Int) := by omega
              obtain rfl : i = rest.length := by omega
              rcases best_cases hbest.o with rfl | ⟨b, hb, rfl⟩
              · have hnone := best_none hbest.o hperm.o
                have HV := hq (HP0.o wr (by
                  rw [hV.o]
                  have hl := hperm.o.length_eq
                  obtain ⟨m, hm⟩ : ∃ m, sr.length = m + 1 := ⟨sr.length - 1, by omega⟩
                  rw [hm, mergeGo_none (by rintro rfl; simp at hm) hnone]
                  rfl) hR2.o.bl)
                clear HP0 hbest hperm hsort hnod hV hR hR2 hbz hnone
                go_wp2_with fail
                first | exact HV.o | (go_ret2; exact HV.o) | (go_ret3; exact HV.o)
              · have hsome := best_some hb hbest.o hperm.o hsort.o
                have hbz0 : ¬ (b : Int) < 0 := by omega
                have hblz : (b : Int) < (rest.length : Int) := by omega
                have hndr : rest.Nodup := (hperm.o.nodup_iff).2 hnod.o
                have HPE : Hq ((rest.eraseIdx b).Perm (sr.erase rest[b])) := hq (by rw [erase_ix hndr hb]; exact hperm.o.erase _)
                have HSE : Hq ((sr.erase rest[b]).Pairwise fun x y => x ≤ y) := hq (hsort.o.sublist List.erase_sublist)
                have HNE : Hq (sr.erase rest[b]).Nodup := hq (hnod.o.erase _)
                have hlr := hperm.o.length_eq
                have hle := List.length_erase_of_mem (List.mem_of_find?_eq_some hsome)
                have HVE : Hq (V = (mergeGo bef (sr.erase rest[b]).length (sr.erase rest[b])).map fun r => (done ++ [rest[b]]) ++ r) := hq (by
                  rw [hV.o]
                  obtain ⟨m, hm⟩ : ∃ m, sr.length = m + 1 := ⟨sr.length - 1, by omega⟩
                  rw [hm, mergeGo_some hsome, hle, hm, Nat.add_sub_cancel]
                  cases mergeGo bef m (sr.erase rest[b]) with
                  | none => rfl
                  | some r => simp)
                have hli : (rest.eraseIdx b).length = rest.length - 1 := List.length_eraseIdx_of_lt hb
                clear hsome hlr hle hV hnod hsort hperm hndr hbest hR hbz HP0
                obtain ⟨b1, f1, hb1', c1⟩ := hR2.o.rd.rd b hb
                simp only at hb1' c1
                have hrc := hR2.o.rd.le
                have hcm := hR2.o.rd.cp
                simp only at hrc hcm
                have HSM : Hq (∀ x, strCells done ++ [.string (st x)] = strCells (done ++ [x])) := hq (fun x => by simp [strCells])
                generalize hx : rest[b] = x at *
                clear hx
                have hmr := hR2.o.mr
                obtain ⟨i0, hi0, hz0, hz1, hz2⟩ := info_parts infoStr
                have hbase : w.heap.size ≤ wr.heap.size := hR2.o.bl.size
                subst hb1'
                go_wp2_with (at_builtin; refine wpList_append_own_at _ rfl _ _ 22 rfl w.heap.size 9 i0 (.string ⟨#[]⟩) 1 16 Try.underlying22 hi0 hz0 hz1 hz2 rfl (by decide) _ _ _ rfl (hmr.alloc _) ⟨wr.heap.size, 0, none⟩ 1 1 [.string (st x)] rfl rfl (cells_of_new _ [.string (st x)] _) (by simp [Value.oneCell']) (by unfold maxLen; omega) (by omega) (by rw [World.size_alloc]; omega) ?_)
                intro v' w11 hown11 hgrow11 _ hat11
                rw [HSM.o x, show done.length + 1 = (done ++ [x]).length by simp] at hown11
                have hR3 := hq ((hR2.o.grow (below_alloc wr (.cells #[.string (st x)] 9))).app h0 hgrow11 hown11 (by rw [World.size_alloc]; exact hat11))
                clear hR2 c1 hmr hown11 hgrow11 hat11 HSM hbase
                have hbc : b ≤ cap := by omega
                obtain ⟨d, hd⟩ : ∃ d, d = b + 1 := ⟨_, rfl⟩
                have hdc : d ≤ cap := by omega
                have hdl : d ≤ rest.length := by omega
                have hwd : IntKind.i64.wrap ((b : Int) + 1) = (d : Int) := (IntWalk.i64_in _ (by omega)).trans (by omega)
                have hdz : (d : Int) ≤ (rest.length : Int) := by omega
                have hok11 := hq hR3.o.rd
                obtain ⟨A, hA, hA2⟩ : ∃ A, (if cap = d then some (⟨b1, f1, none⟩ : Addr) else some ⟨b1, f1 + d, none⟩) = A ∧ (0 < rest.length - d → A = (some (⟨b1, f1, none⟩ : Addr)).map fun q => q.add (b + 1)) := ⟨_, rfl, fun h => by
                  rw [if_neg (by omega), Option.map_some, Addr.add_lit, hd]⟩
                have HD := hq hd
                clear hd
                have HA2 := hq hA2
                clear hA2
                go_upto_region 32 with fail
                go_region_law (refine step_cutout (o := some ⟨b1, f1, none⟩) (o2 := A) (cap := cap) (c2 := cap - d) (b := b) (m := rest.length - d) (l := rest) rfl (.tmp 136) (.tmp 140) rfl (hok11.o.grow (Below.refl _ _).drew) hb (by rw [← HD.o]) hrl (by simp [Act.eval, Act.put]) (by simp [Act.eval, Act.put]) HA2.o ?_; intro o' cap' w' hx1 hx2 hx3)
                all_goals
                  have hR4 := hq ((hR3.o.grow (Below.refl _ _).drew).cut hx3 hx2 hx1)
                  go_simp
                  go_wp2_with fail
                  go_roundw
                  case rel => exact ⟨o', cap', rest.eraseIdx b, _, _, by have := HD.o; first | rfl | (rw [hli]; congr 1; omega), hR4, HPE, HSE, HNE, HVE, by rw [hli]; simp; omega⟩
                  case measure => have := HD.o; simp [lenOfV]; omega
        · have h0z : ¬ (0 : Int) < (rest.length : Int) := by omega
          obtain rfl := List.eq_nil_of_length_eq_zero (show rest.length = 0 by omega)
          obtain rfl := List.Perm.eq_nil hperm.o.symm
          have HVD : Hq (V = some done) := hq (by rw [hV.o, mergeGo_nil]; simp)
          have hmr := hR.o.mr
          have hbl := hR.o.bl
          obtain ⟨r0, hr1, hr2, hr3⟩ : ∃ r : SRow, r.v = u17 ∧ r.l = done ∧ r.ok wr := by
            rcases row_len hmr with ⟨e1, e2⟩ | ⟨g, c, e2⟩
            · exact ⟨⟨none, 0, []⟩, by rw [e2]; rfl, (List.eq_nil_of_length_eq_zero e1).symm, nil_ok _⟩
            · rw [e2] at hmr ⊢
              exact ⟨_, rfl, rfl, row_ok hmr⟩
          have HV := hq (HP1.o wr r0 (by rw [hr2]; exact HVD.o) hr3 hbl)
          unfold SRow.v at hr1
          rw [hr1] at HV
          clear HP0 HP1 hperm hsort hnod hV hR hmr hr1 hr2 hr3
          go_wp2_with fail
          first | exact HV.o | (go_ret2; exact HV.o) | (go_ret3; exact HV.o)
end Go.Proofs.Ytccdmoogjcgcfaa
