/-
  WALKS: the document's Match of layer 18.
-/
import Derived.Test.YtmadgdafgkleiaaDoorRua
import Derived.IntWalk
import Derived.Deep.RegionHeld3
import Derived.Test.YtmadgdafgkleiaaDoorFlx
namespace Go.Proofs.YtmadgdafgkleiaaDoor
open Go.RowKit
theorem orScan_next {l : List Bool} {k : Nat} (hk : k + 1 < l.length) {b c : Bool} (h1 : l[k + 1] = b) (h2 : (orScan false l)[k]? = some c) : (orScan false l)[k + 1]? = some (b || c) := by
  rw [orScan_at l false k (by omega)] at h2
  rw [orScan_at l false (k + 1) hk, any_succ hk, h1]
  have := Option.some.inj h2
  simp only [Bool.false_or] at this
  rw [this]
  cases b <;> cases c <;> rfl
theorem orScan_zero {l : List Bool} (hk : 0 < l.length) {b : Bool} (h1 : l[0] = b) : (orScan false l)[0]? = some b := by
  cases l with
  | nil => simp at hk
  | cons x l => simp [orScan] at h1 ⊢; exact h1
def RMA (v5 v7 : Value) (k q : Nat) (aF aN : Addr) (i : Nat) (v : Value) (_ _ : Nat) (_ : World) : Prop := match i with
  | 0 => v = v7
  | 1 => v = .int .i64 (k : Int)
  | 2 => v = v5
  | 3 => v = .int .i64 (k : Int)
  | 4 => v = .int .i64 (q : Int)
  | 5 => v = .pointer (some aF)
  | 6 => v = .bool false
  | 7 => v = .bool false
  | 25 => v = .bool false
  | 26 => v = .pointer (some aN)
  | _ => v = undef
def RMB (v0 v5 v7 : Value) (x : Bs) (n k q : Nat) (aF aX aN : Addr) (i : Nat) (v : Value) (_ _ : Nat) (_ : World) : Prop := match i with
  | 0 => v = v7
  | 1 => v = .int .i64 (k : Int)
  | 2 => v = v5
  | 3 => v = .int .i64 (k : Int)
  | 4 => v = .int .i64 (q : Int)
  | 5 => v = .pointer (some aF)
  | 6 => v = .bool true
  | 7 => v = .bool true
  | 8 => v = v0
  | 9 => v = .int .i64 (n : Int)
  | 10 => v = .pointer (some aX)
  | 11 => v = .string (st x)
  | 12 => v = .bool true
  | 13 => v = .bool true
  | 24 => v = .bool true
  | 25 => v = .bool true
  | 26 => v = .pointer (some aN)
  | _ => v = undef
def RMC (v0 v1 v5 v7 : Value) (x y : Bs) (c : Bool) (n k q : Nat) (aF aX aY aN : Addr) (i : Nat) (v : Value) (_ _ : Nat) (_ : World) : Prop := match i with
  | 0 => v = v7
  | 1 => v = .int .i64 (k : Int)
  | 2 => v = v5
  | 3 => v = .int .i64 (k : Int)
  | 4 => v = .int .i64 (q : Int)
  | 5 => v = .pointer (some aF)
  | 6 => v = .bool true
  | 7 => v = .bool true
  | 8 => v = v0
  | 9 => v = .int .i64 (n : Int)
  | 10 => v = .pointer (some aX)
  | 11 => v = .string (st x)
  | 12 => v = .bool false
  | 13 => v = .bool false
  | 14 => v = v0
  | 15 => v = .int .i64 (n : Int)
  | 16 => v = .pointer (some aX)
  | 17 => v = .string (st x)
  | 18 => v = v1
  | 19 => v = .int .i64 (k : Int)
  | 20 => v = .int .i64 (q : Int)
  | 21 => v = .pointer (some aY)
  | 22 => v = .string (st y)
  | 26 => v = .pointer (some aN)
  | _ => v = .bool c
structure RowTo (T cur : List Bool) (k : Nat) : Prop where
  len : cur.length = T.length
  at_ : ∀ j, j < k → cur[j]? = T[j]?
  off : ∀ j, k ≤ j → j < T.length → cur[j]? = some false
theorem RowTo.begin (T : List Bool) {n : Nat} (h : T.length = n) : RowTo T (List.replicate n false) 0 := ⟨by simp [h], fun j h => absurd h (Nat.not_lt_zero _), fun j _ hj => by rw [List.getElem?_replicate, if_pos (by omega)]⟩
theorem RowTo.set {T cur : List Bool} {k : Nat} (h : RowTo T cur k) (hk : k < T.length) {b : Bool} (hb : T[k]? = some b) : RowTo T (cur.set k b) (k + 1) := ⟨by rw [List.length_set]; exact h.len, fun j hj => by
    by_cases e : j = k
    · subst e
      rw [List.getElem?_set_self (by rw [h.len]; exact hk), hb]
    · rw [List.getElem?_set_ne (fun h => e h.symm)]
      exact h.at_ j (by omega), fun j hj hl => by
    rw [List.getElem?_set_ne (by omega)]
    exact h.off j (by omega) hl⟩
theorem RowTo.skip {T cur : List Bool} {k : Nat} (h : RowTo T cur k) (hb : T[k]? = some false) : RowTo T cur (k + 1) := ⟨h.len, fun j hj => by
    by_cases e : j = k
    · subst e
      have hk : j < T.length := (List.getElem?_eq_some_iff.1 hb).1
      rw [hb, h.off j (Nat.le_refl _) hk]
    · exact h.at_ j (by omega), fun j hj hl => h.off j (by omega) hl⟩
theorem RowTo.done {T cur : List Bool} (h : RowTo T cur T.length) : cur = T := List.ext_getElem? fun j => by
  rcases Nat.lt_or_ge j T.length with hj | hj
  · exact h.at_ j hj
  · rw [List.getElem?_eq_none (by rw [h.len]; exact hj), List.getElem?_eq_none hj]
set_option maxHeartbeats 1000000 in
set_option maxRecDepth 1000000 in
theorem rmatch_any (p r : SRow) (W : World) (hp : p.ok W) (hr : r.ok W) : Calls Tryd.prog 12 #[p.v, r.v] W (MatchPost p.l r.l W) := by
  obtain ⟨po, pcap, pl⟩ := p
  obtain ⟨ro, rcap, rl⟩ := r
  have HPO := hq hp
  have HRO := hq hr
  have hpc := hp.le
  have hpm := hp.cp
  have hrc := hr.le
  have hrm := hr.cp
  unfold maxLen at hpm hrm
  have HP : Hq (∀ b W', matchM pl rl = b → Below W.heap.size W W' → MatchPost pl rl W (.returned (.bool b)) W') := hq (fun b W' h1 h2 => ⟨by rw [h1], h2⟩)
  simp only at hpc hpm hrc hrm ⊢
  generalize MatchPost pl rl W = PP at *
  have HM : Hq (matchM pl rl = if 200 < pl.length ∨ 200 < rl.length then false else (fitsM rl pl).getD rl.length false) := hq rfl
  unfold SRow.v
  clear hp hr
  simp only
  by_cases h1 : 200 < pl.length
  · have hz : (200 : Int) < (pl.length : Int) := by omega
    have HV := hq (HP.o false W (by rw [HM.o, if_pos (.inl h1)]) (Below.refl _ _))
    clear HP HM h1
    go_enter Tryd.func12, Tryd.ntmps12
    go_wp2_with fail
    first | exact HV.o | (go_ret; exact HV.o)
  · have hz : ¬ (200 : Int) < (pl.length : Int) := by omega
    by_cases h2 : 200 < rl.length
    · have hz2 : (200 : Int) < (rl.length : Int) := by omega
      have HV := hq (HP.o false W (by rw [HM.o, if_pos (.inr h2)]) (Below.refl _ _))
      clear HP HM h1 h2
      go_enter Tryd.func12, Tryd.ntmps12
      go_wp2_with fail
      first | exact HV.o | (go_ret; exact HV.o)
    · have hz2 : ¬ (200 : Int) < (rl.length : Int) := by omega
      have HM2 := hq (HM.o.trans (if_neg (by omega)))
      have hz3 : (0 : Int) < (rl.length : Int) + 1 := by omega
      have hm : ∀ WW : World, (Instr.makeSlice 40 (.int .i64 ((rl.length : Int) + 1)) (.int .i64 ((rl.length : Int) + 1))).run Tryd.prog WW = .ok (.slice (some ⟨WW.heap.size, 0, none⟩) (rl.length + 1) (rl.length + 1)) (WW.alloc (.cells (bC (List.replicate (rl.length + 1) false)) 4)) := fun WW => by
        have := mk_bools (rl.length + 1) (by omega) WW
        rw [show ((rl.length + 1 : Nat) : Int) = (rl.length : Int) + 1 by omega] at this
        exact this
      have hw0 := Whole.made W 4 (bC (List.replicate (rl.length + 1) false))
      have c0 := hw0.at_ 0
      rw [bC_at (by simp)] at c0
      have c1 := hw0.free 0
      have HX0 : Hq (Whole (W.alloc (.cells ((bC (List.replicate (rl.length + 1) false)).setIfInBounds 0 (.bool true)) 4)) W.heap.size 4 (bC (fitsM rl (pl.take 0)))) := hq (by
        have := Whole.made W 4 ((bC (List.replicate (rl.length + 1) false)).setIfInBounds 0 (.bool true))
        rw [bC_set] at this ⊢
        exact this)
      have HB0 : Hq (Below W.heap.size W (W.alloc (.cells ((bC (List.replicate (rl.length + 1) false)).setIfInBounds 0 (.bool true)) 4))) := hq (below_alloc W _)
      clear hw0 h1
      go_enter Tryd.func12, Tryd.ntmps12
      go_wp2_with fail
      clear c0 c1
      go_loopg [5, 6, 7, 8] pl.length (fun gk u5 u _ _ wr => ∃ (i g : Nat), i + gk ≤ pl.length ∧ pl.length ≤ i + gk ∧ u = .int .i64 (i : Int) ∧ u5 = .slice (some ⟨g, 0, none⟩) (rl.length + 1) (rl.length + 1) ∧ Hq (Whole wr g 4 (bC (fitsM rl (pl.take i)))) ∧ Hq (Below W.heap.size W wr))
      case atStart => exact ⟨0, W.heap.size, by omega, by omega, rfl, rfl, HX0, HB0⟩
      case round =>
        generalize gk = go at *
        obtain ⟨wo, hwo⟩ : ∃ wo, wo = wr := ⟨_, rfl⟩
        subst hwo
        obtain ⟨i, g, hi1, hi2, rfl, rfl, hw, hb⟩ := hrel
        clear HX0 HB0
        by_cases hil : i < pl.length
        · have hiz : (i : Int) < (pl.length : Int) := by omega
          have HPC := hq (fun wx (hbx : Below W.heap.size W wx) => strs_at HPO.o.rd hbx hil)
          have HRC := hq (fun wx (hbx : Below W.heap.size W wx) k (hk : k < rl.length) => strs_at HRO.o.rd hbx hk)
          have HN := hq (@fits_next rl pl i hil)
          have HFL := hq (fitsM_len rl (pl.take i))
          have HTL := hq (fitsM_len rl (pl.take (i + 1)))
          simp only at HPC HRC
          generalize pl[i] = x at *
          generalize fitsM rl (pl.take i) = f at *
          generalize hTT : fitsM rl (pl.take (i + 1)) = T at *
          have HTE := hq hTT
          clear hTT
          have hb2 := below_alloc wo (.cells (bC (List.replicate (rl.length + 1) false)) 4)
          have HX := hq (Whole.made wo 4 (bC (List.replicate (rl.length + 1) false)))
          have HFW := hq (fun wx (hbx : Below wo.heap.size wo wx) => hw.o.grow hbx)
          have HGL : Hq (g < wo.heap.size) := hq hw.o.lt
          have HBW := hq (fun wx (hbx : Below wo.heap.size wo wx) => below_trans hb.o hbx)
          have HB2 := hq hb2
          have hWo : W.heap.size ≤ wo.heap.size := hb.o.size
          have HT0 := hq (RowTo.begin T HTL.o)
          clear hb2 hw hb
          go_wp2_with fail
          go_loopg [8] (rl.length + 1) (fun gk u wx => ∃ (k : Nat) (cur : List Bool), k + gk ≤ rl.length + 1 ∧ rl.length + 1 ≤ k + gk ∧ u = .int .i64 (k : Int) ∧ Hq (Whole wx wo.heap.size 4 (bC cur)) ∧ Hq (RowTo T cur k) ∧ Hq (Below wo.heap.size wo wx))
          case atStart => exact ⟨0, _, by omega, by omega, rfl, HX, HT0, HB2⟩
          case round =>
            clear HX HB2 HT0
            obtain ⟨k, cur, hk1, hk2, rfl, hw, hcur, hb⟩ := hrel
            by_cases hkl : k < rl.length + 1
            · have hkz : (k : Int) ≤ (rl.length : Int) := by omega
              have hkz2 : (k : Int) < (rl.length : Int) + 1 := by omega
              have HBK := hq (HBW.o _ hb.o)
              obtain ⟨b, fo, rfl, c0⟩ := HPC.o _ HBK.o
              have c1 := (HFW.o _ hb.o).at_ k
              rw [bC_at (by have := HFL.o; omega)] at c1
              obtain ⟨u1, hu1⟩ : ∃ u1, wr.cell? ⟨wo.heap.size, k, none⟩ = some u1 := ⟨_, (hw.o.at_ k).trans (bC_at (by have := hcur.o.len; have := HTL.o; omega))⟩
              have c3 := hw.o.free k
              have HV := hq (fun b : Bool => And.intro ((bC_set cur k b) ▸ hw.o.put k (.bool b)) (hb.o.setCell (p := ⟨wo.heap.size, k, none⟩) (Nat.le_refl _) (.bool b)))
              have HRS := hq (fun b : Bool => @RowTo.set T cur k hcur.o (by have := HTL.o; omega) b)
              by_cases hx : isRow x = true
              · have hxx : (x == [42, 42]) = true := hx
                have HT : Hq (T = orScan false f) := hq (by rw [HN.o]; unfold rowM; rw [if_pos hx])
                by_cases hk0 : k = 0
                · subst hk0
                  have HZ := hq (fun b : Bool => @orScan_zero f (by have := HFL.o; omega) b)
                  generalize hfk : f[0]'(by have := HFL.o; omega) = fk at *
                  clear hfk HN HM HM2 HP HPO HRO HPC HRC HFW HBW hw hb hcur hx
                  cases fk with
                  | true =>
                    go_wp2_with fail
                    go_roundg (gk - 1)
                    case measure => omega
                    case rel => exact ⟨0 + 1, _, by omega, by omega, int_eq (by omega), hq (HV.o true).1, hq (HRS.o true (by rw [HT.o]; exact HZ.o true rfl)), hq (HV.o true).2⟩
                  | false =>
                    go_wp2_with fail
                    go_roundg (gk - 1)
                    case measure => omega
                    case rel => exact ⟨0 + 1, _, by omega, by omega, int_eq (by omega), hq (HV.o false).1, hq (HRS.o false (by rw [HT.o]; exact HZ.o false rfl)), hq (HV.o false).2⟩
                · obtain ⟨q, hq1, hq2⟩ : ∃ q, k ≤ q + 1 ∧ q + 1 ≤ k := ⟨k - 1, by omega, by omega⟩
                  have hkp : (0 : Int) < (k : Int) := by omega
                  have hqw : IntKind.i64.wrap ((k : Int) - 1) = (q : Int) := by rw [IntWalk.i64_in _ (by omega)]; omega
                  have hqz : (q : Int) < (rl.length : Int) + 1 := by omega
                  have c4 := hw.o.at_ q
                  rw [bC_at (by have := hcur.o.len; have := HTL.o; omega)] at c4
                  have HQ := hq ((List.getElem?_eq_getElem (l := cur) (i := q) (by have := hcur.o.len; have := HTL.o; omega)).symm.trans (hcur.o.at_ q (by omega)))
                  have HZ : Hq (∀ b c : Bool, f[k]'(by have := HFL.o; omega) = b → some (cur[q]'(by have := hcur.o.len; have := HTL.o; omega)) = some c → (orScan false f)[k]? = some (b || c)) := hq (fun b c h1 h2 => by
                    obtain rfl : k = q + 1 := by omega
                    refine orScan_next (by have := HFL.o; omega) h1 ?_
                    rw [← HT.o, ← HQ.o, h2])
                  generalize f[k]'(by have := HFL.o; omega) = fk at *
                  generalize cur[q]'(by have := hcur.o.len; have := HTL.o; omega) = cq at *
                  clear HQ HN HM HM2 HP HPO HRO HPC HRC HFW HBW hw hb hcur hx hk0
                  cases fk with
                  | true =>
                    go_wp2_with fail
                    go_roundg (gk - 1)
                    case measure => omega
                    case rel => exact ⟨k + 1, _, by omega, by omega, int_eq (by omega), hq (HV.o true).1, hq (HRS.o true (by rw [HT.o]; exact HZ.o true cq rfl rfl)), hq (HV.o true).2⟩
                  | false =>
                    go_wp2_with fail
                    go_roundg (gk - 1)
                    case measure => omega
                    case rel => exact ⟨k + 1, _, by omega, by omega, int_eq (by omega), hq (HV.o cq).1, hq (HRS.o cq (by rw [HT.o]; exact HZ.o false cq rfl rfl)), hq (HV.o cq).2⟩
              · have hxx : (x == [42, 42]) = false := Bool.eq_false_iff.2 hx
                have HT : Hq (T = false :: andRow x f rl) := hq (by rw [HN.o]; unfold rowM; rw [if_neg hx])
                by_cases hk0 : k = 0
                · subst hk0
                  have HSK := hq (hcur.o.skip (by rw [HT.o]; rfl))
                  clear HN HM HM2 HP HPO HRO HPC HRC HFW HBW hcur hx HV HRS
                  go_wp2_with fail
                  go_roundg (gk - 1)
                  case measure => omega
                  case rel => exact ⟨0 + 1, _, by omega, by omega, int_eq (by omega), hw, HSK, hb⟩
                · obtain ⟨q, hq1, hq2⟩ : ∃ q, k ≤ q + 1 ∧ q + 1 ≤ k := ⟨k - 1, by omega, by omega⟩
                  have hkp : (0 : Int) < (k : Int) := by omega
                  have hqw : IntKind.i64.wrap ((k : Int) - 1) = (q : Int) := by rw [IntWalk.i64_in _ (by omega)]; omega
                  have hqz : (q : Int) < (rl.length : Int) + 1 := by omega
                  have hqz2 : (q : Int) < (rl.length : Int) := by omega
                  have hql : q < rl.length := by omega
                  have c4 := (HFW.o _ hb.o).at_ q
                  rw [bC_at (by have := HFL.o; omega)] at c4
                  obtain ⟨b2, fo2, rfl, c5⟩ := HRC.o _ HBK.o q hql
                  have HZ : Hq (T[k]? = some (f[q]'(by have := HFL.o; omega) && (stepAny x || x == rl[q]))) := hq (by
                    obtain rfl : k = q + 1 := by omega
                    rw [HT.o, List.getElem?_cons_succ, andRow_at x f rl q (by have := HFL.o; omega) hql])
                  unfold stepAny at HZ
                  generalize f[q]'(by have := HFL.o; omega) = fk at *
                  generalize rl[q] = y at *
                  have HWX := hq hw.o
                  have HBX := hq hb.o
                  have HKC : Hq (k < cur.length) := hq (by have := hcur.o.len; have := HTL.o; omega)
                  clear HN HM HM2 HP HPO HRO HPC HRC HFW HBW hw hb hcur hx hk0 hql HV
                  obtain ⟨gN, HGN⟩ : ∃ gN, Hq (wo.heap.size = gN) := ⟨_, hq rfl⟩
                  rw [HGN.o] at HWX hu1 c3 ⊢
                  cases fk with
                  | false =>
                    have HSS := hq (HRS.o false (by rw [HZ.o]; rfl))
                    clear HZ HRS
                    go_upto_region 15 with fail
                    refine go_flow (by kernel_rfl) [(0, 64), (1, 65), (2, 66), (3, 67), (4, 68), (5, 69), (6, 70), (7, 71), (8, 72), (9, 73), (10, 74), (11, 75), (12, 76), (13, 77), (14, 78), (15, 79), (16, 80), (17, 81), (18, 82), (19, 83), (20, 84), (21, 85), (22, 86), (23, 87), (24, 88), (25, 89), (26, 90)] [[0], [1], [2], [3], [4, 3], [5, 2, 4, 3], [6, 5, 2, 4, 3], [7, 6, 5, 2, 4, 3], [8, 7, 6, 5, 2, 4, 3], [9, 7, 6, 5, 2, 4, 3], [10, 7, 6, 5, 2, 4, 3], [11, 7, 6, 5, 2, 4, 3], [12, 7, 6, 5, 2, 4, 3], [13, 7, 6, 5, 2, 4, 3], [14, 13, 7, 6, 5, 2, 4, 3], [15, 13, 7, 6, 5, 2, 4, 3], [16, 13, 7, 6, 5, 2, 4, 3], [17, 13, 7, 6, 5, 2, 4, 3], [18, 13, 7, 6, 5, 2, 4, 3], [19, 13, 7, 6, 5, 2, 4, 3], [20, 13, 7, 6, 5, 2, 4, 3], [21, 13, 7, 6, 5, 2, 4, 3], [22, 13, 7, 6, 5, 2, 4, 3], [23, 13, 7, 6, 5, 2, 4, 3], [24, 7, 6, 5, 2, 4, 3], [25, 7, 6, 5, 2, 4, 3, 24], [26, 0, 1]] [] [27] (RMA (.slice (some ⟨g, 0, none⟩) (rl.length + 1) (rl.length + 1)) (.slice (some ⟨gN, 0, none⟩) (rl.length + 1) (rl.length + 1)) k q ⟨g, q, none⟩ ⟨gN, k, none⟩) ?Aa ?hAa (by kernel_rfl) ?hsa ?hea
                    case hAa =>
                      intro f
                      simp only [putS]
                      go_simp
                      rfl
                    case hsa =>
                      refine Steps.cons rfl ?_ (Steps.cons rfl ?_ (Steps.cons rfl ?_ (Steps.cons rfl ?_ (Steps.cons rfl ?_ (Steps.cons rfl ?_ (Steps.cons rfl ?_ (Steps.cons rfl ?_ (Steps.cons rfl ?_ (Steps.cons rfl ?_ (Steps.cons rfl ?_ (Steps.cons rfl ?_ (Steps.cons rfl ?_ (Steps.cons rfl ?_ (Steps.cons rfl ?_ (Steps.cons rfl ?_ (Steps.cons rfl ?_ (Steps.cons rfl ?_ (Steps.cons rfl ?_ (Steps.cons rfl ?_ (Steps.cons rfl ?_ (Steps.cons rfl ?_ (Steps.cons rfl ?_ (Steps.cons rfl ?_ (Steps.cons rfl ?_ (Steps.cons rfl ?_ (Steps.cons rfl ?_ Steps.nil))))))))))))))))))))))))))
                      · intro f lo hi W2 hb hd K hK
                        rw [if_pos (by rfl)]
                        go_simp
                        exact hK _ _ (Below.refl _ _) (fun V _ _ _ _ => rfl)
                      · intro f lo hi W2 hb hd K hK
                        rw [if_pos (by rfl)]
                        go_simp
                        exact hK _ _ (Below.refl _ _) (fun V _ _ _ _ => rfl)
                      · intro f lo hi W2 hb hd K hK
                        rw [if_pos (by rfl)]
                        go_simp
                        exact hK _ _ (Below.refl _ _) (fun V _ _ _ _ => rfl)
                      · intro f lo hi W2 hb hd K hK
                        rw [if_pos (by rfl)]
                        go_simp
                        exact hK _ _ (Below.refl _ _) (fun V _ _ _ _ => rfl)
                      · intro f lo hi W2 hb hd K hK
                        have e3 : f 3 = _ := (hd 3 (by decide) (by decide))
                        clear hd
                        try dsimp only at hK
                        generalize f 3 = x3 at e3 hK ⊢
                        subst e3
                        rw [if_pos (by rfl)]
                        go_simp
                        exact hK _ _ (Below.refl _ _) (fun V _ _ _ _ => rfl)
                      · intro f lo hi W2 hb hd K hK
                        have e2 : f 2 = _ := (hd 2 (by decide) (by decide))
                        have e4 : f 4 = _ := (hd 4 (by decide) (by decide))
                        clear hd
                        try dsimp only at hK
                        generalize f 2 = x2 at e2 hK ⊢
                        generalize f 4 = x4 at e4 hK ⊢
                        subst e2
                        subst e4
                        rw [if_pos (by rfl)]
                        go_simp
                        exact hK _ _ (Below.refl _ _) (fun V _ _ _ _ => rfl)
                      · intro f lo hi W2 hb hd K hK
                        have e5 : f 5 = _ := (hd 5 (by decide) (by decide))
                        clear hd
                        try dsimp only at hK
                        generalize f 5 = x5 at e5 hK ⊢
                        subst e5
                        rw [if_pos (by rfl)]
                        have k0 := (hb.cell (cell_blk c4)).trans c4
                        go_simp
                        exact hK _ _ (Below.refl _ _) (fun V _ _ _ _ => rfl)
                      · intro f lo hi W2 hb hd K hK
                        have e6 : f 6 = _ := (hd 6 (by decide) (by decide))
                        clear hd
                        try dsimp only at hK
                        generalize f 6 = x6 at e6 hK ⊢
                        subst e6
                        rw [if_pos (by rfl)]
                        go_simp
                        exact hK _ _ (Below.refl _ _) (fun V _ _ _ _ => rfl)
                      · intro f lo hi W2 hb hd K hK
                        have e7 : f 7 = _ := (hd 7 (by decide) (by decide))
                        clear hd
                        try dsimp only at hK
                        generalize f 7 = x7 at e7 hK ⊢
                        subst e7
                        rw [if_neg (by exact Bool.false_ne_true)]
                        go_simp
                        exact hK _ _ (Below.refl _ _) (fun V _ _ _ _ => rfl)
                      · intro f lo hi W2 hb hd K hK
                        have e7 : f 7 = _ := (hd 7 (by decide) (by decide))
                        clear hd
                        try dsimp only at hK
                        generalize f 7 = x7 at e7 hK ⊢
                        subst e7
                        rw [if_neg (by exact Bool.false_ne_true)]
                        go_simp
                        exact hK _ _ (Below.refl _ _) (fun V _ _ _ _ => rfl)
                      · intro f lo hi W2 hb hd K hK
                        have e7 : f 7 = _ := (hd 7 (by decide) (by decide))
                        clear hd
                        try dsimp only at hK
                        generalize f 7 = x7 at e7 hK ⊢
                        subst e7
                        rw [if_neg (by exact Bool.false_ne_true)]
                        go_simp
                        exact hK _ _ (Below.refl _ _) (fun V _ _ _ _ => rfl)
                      · intro f lo hi W2 hb hd K hK
                        have e7 : f 7 = _ := (hd 7 (by decide) (by decide))
                        clear hd
                        try dsimp only at hK
                        generalize f 7 = x7 at e7 hK ⊢
                        subst e7
                        rw [if_neg (by exact Bool.false_ne_true)]
                        go_simp
                        exact hK _ _ (Below.refl _ _) (fun V _ _ _ _ => rfl)
                      · intro f lo hi W2 hb hd K hK
                        have e7 : f 7 = _ := (hd 7 (by decide) (by decide))
                        clear hd
                        try dsimp only at hK
                        generalize f 7 = x7 at e7 hK ⊢
                        subst e7
                        rw [if_neg (by exact Bool.false_ne_true)]
                        go_simp
                        exact hK _ _ (Below.refl _ _) (fun V _ _ _ _ => rfl)
                      · intro f lo hi W2 hb hd K hK
                        have e7 : f 7 = _ := (hd 7 (by decide) (by decide))
                        clear hd
                        try dsimp only at hK
                        generalize f 7 = x7 at e7 hK ⊢
                        subst e7
                        rw [if_neg (by exact Bool.false_ne_true)]
                        go_simp
                        exact hK _ _ (Below.refl _ _) (fun V _ _ _ _ => rfl)
                      · intro f lo hi W2 hb hd K hK
                        have e13 : f 13 = _ := (hd 13 (by decide) (by decide))
                        clear hd
                        try dsimp only at hK
                        generalize f 13 = x13 at e13 hK ⊢
                        subst e13
                        rw [if_neg (by exact Bool.false_ne_true)]
                        go_simp
                        exact hK _ _ (Below.refl _ _) (fun V _ _ _ _ => rfl)
                      · intro f lo hi W2 hb hd K hK
                        have e13 : f 13 = _ := (hd 13 (by decide) (by decide))
                        clear hd
                        try dsimp only at hK
                        generalize f 13 = x13 at e13 hK ⊢
                        subst e13
                        rw [if_neg (by exact Bool.false_ne_true)]
                        go_simp
                        exact hK _ _ (Below.refl _ _) (fun V _ _ _ _ => rfl)
                      · intro f lo hi W2 hb hd K hK
                        have e13 : f 13 = _ := (hd 13 (by decide) (by decide))
                        clear hd
                        try dsimp only at hK
                        generalize f 13 = x13 at e13 hK ⊢
                        subst e13
                        rw [if_neg (by exact Bool.false_ne_true)]
                        go_simp
                        exact hK _ _ (Below.refl _ _) (fun V _ _ _ _ => rfl)
                      · intro f lo hi W2 hb hd K hK
                        have e13 : f 13 = _ := (hd 13 (by decide) (by decide))
                        clear hd
                        try dsimp only at hK
                        generalize f 13 = x13 at e13 hK ⊢
                        subst e13
                        rw [if_neg (by exact Bool.false_ne_true)]
                        go_simp
                        exact hK _ _ (Below.refl _ _) (fun V _ _ _ _ => rfl)
                      · intro f lo hi W2 hb hd K hK
                        have e13 : f 13 = _ := (hd 13 (by decide) (by decide))
                        clear hd
                        try dsimp only at hK
                        generalize f 13 = x13 at e13 hK ⊢
                        subst e13
                        rw [if_neg (by exact Bool.false_ne_true)]
                        go_simp
                        exact hK _ _ (Below.refl _ _) (fun V _ _ _ _ => rfl)
                      · intro f lo hi W2 hb hd K hK
                        have e13 : f 13 = _ := (hd 13 (by decide) (by decide))
                        clear hd
                        try dsimp only at hK
                        generalize f 13 = x13 at e13 hK ⊢
                        subst e13
                        rw [if_neg (by exact Bool.false_ne_true)]
                        go_simp
                        exact hK _ _ (Below.refl _ _) (fun V _ _ _ _ => rfl)
                      · intro f lo hi W2 hb hd K hK
                        have e13 : f 13 = _ := (hd 13 (by decide) (by decide))
                        clear hd
                        try dsimp only at hK
                        generalize f 13 = x13 at e13 hK ⊢
                        subst e13
                        rw [if_neg (by exact Bool.false_ne_true)]
                        go_simp
                        exact hK _ _ (Below.refl _ _) (fun V _ _ _ _ => rfl)
                      · intro f lo hi W2 hb hd K hK
                        have e13 : f 13 = _ := (hd 13 (by decide) (by decide))
                        clear hd
                        try dsimp only at hK
                        generalize f 13 = x13 at e13 hK ⊢
                        subst e13
                        rw [if_neg (by exact Bool.false_ne_true)]
                        go_simp
                        exact hK _ _ (Below.refl _ _) (fun V _ _ _ _ => rfl)
                      · intro f lo hi W2 hb hd K hK
                        have e13 : f 13 = _ := (hd 13 (by decide) (by decide))
                        clear hd
                        try dsimp only at hK
                        generalize f 13 = x13 at e13 hK ⊢
                        subst e13
                        rw [if_neg (by exact Bool.false_ne_true)]
                        go_simp
                        exact hK _ _ (Below.refl _ _) (fun V _ _ _ _ => rfl)
                      · intro f lo hi W2 hb hd K hK
                        have e13 : f 13 = _ := (hd 13 (by decide) (by decide))
                        clear hd
                        try dsimp only at hK
                        generalize f 13 = x13 at e13 hK ⊢
                        subst e13
                        rw [if_neg (by exact Bool.false_ne_true)]
                        go_simp
                        exact hK _ _ (Below.refl _ _) (fun V _ _ _ _ => rfl)
                      · intro f lo hi W2 hb hd K hK
                        have e7 : f 7 = _ := (hd 7 (by decide) (by decide))
                        clear hd
                        try dsimp only at hK
                        generalize f 7 = x7 at e7 hK ⊢
                        subst e7
                        rw [if_neg (by exact Bool.false_ne_true)]
                        go_simp
                        exact hK _ _ (Below.refl _ _) (fun V _ _ _ _ => rfl)
                      · intro f lo hi W2 hb hd K hK
                        have e7 : f 7 = _ := (hd 7 (by decide) (by decide))
                        have e24 : f 24 = _ := (hd 24 (by decide) (by decide))
                        clear hd
                        try dsimp only at hK
                        generalize f 7 = x7 at e7 hK ⊢
                        generalize f 24 = x24 at e24 hK ⊢
                        subst e7
                        subst e24
                        rw [if_pos (by rfl)]
                        go_simp
                        exact hK _ _ (Below.refl _ _) (fun V _ _ _ _ => rfl)
                      · intro f lo hi W2 hb hd K hK
                        have e0 : f 0 = _ := (hd 0 (by decide) (by decide))
                        have e1 : f 1 = _ := (hd 1 (by decide) (by decide))
                        clear hd
                        try dsimp only at hK
                        generalize f 0 = x0 at e0 hK ⊢
                        generalize f 1 = x1 at e1 hK ⊢
                        subst e0
                        subst e1
                        rw [if_pos (by rfl)]
                        go_simp
                        exact hK _ _ (Below.refl _ _) (fun V _ _ _ _ => rfl)
                    case hea =>
                      intro f lo hi W2 hb hR hbx hk
                      have e25 : f 25 = _ := hR 25 (by decide)
                      have e26 : f 26 = _ := hR 26 (by decide)
                      have HBE := hq hb
                      clear hR hbx hk hb
                      generalize f 25 = x25 at *
                      generalize f 26 = x26 at *
                      subst e25 e26
                      have hw2 := HWX.o.grow HBE.o
                      have k0 : W2.cell? ⟨gN, k, none⟩ = _ := (hw2.at_ k).trans (bC_at HKC.o)
                      have k1 := hw2.free k
                      have HV2 := hq (And.intro ((bC_set cur k false) ▸ hw2.put k (.bool false)) (((HBX.o.trans (HBE.o.mono HBX.o.size))).setCell (p := ⟨gN, k, none⟩) (Nat.le_of_eq HGN.o) (.bool false)))
                      clear c0 c4 c5 hu1 c3 hw2
                      refine wpOps_one rfl ?_
                      rw [if_pos (by rfl)]
                      go_simp
                      refine wpOps_done ?_
                      clear k0 k1
                      go_wp2_with fail
                      rw [← HGN.o]
                      go_roundg (gk - 1)
                      case measure => omega
                      case rel => exact ⟨k + 1, _, by omega, by omega, int_eq (by omega), hq (by rw [HGN.o]; exact HV2.o.1), HSS, hq (by have h := HV2.o.2; rw [← HGN.o] at h; exact h)⟩
                  | true =>
                    cases hsa : (x == [42]) with
                    | true =>
                      have HSS := hq (HRS.o true (by rw [HZ.o, hsa]; rfl))
                      clear HZ HRS
                      go_upto_region 15 with fail
                      refine go_flow (by kernel_rfl) [(0, 64), (1, 65), (2, 66), (3, 67), (4, 68), (5, 69), (6, 70), (7, 71), (8, 72), (9, 73), (10, 74), (11, 75), (12, 76), (13, 77), (14, 78), (15, 79), (16, 80), (17, 81), (18, 82), (19, 83), (20, 84), (21, 85), (22, 86), (23, 87), (24, 88), (25, 89), (26, 90)] [[0], [1], [2], [3], [4, 3], [5, 2, 4, 3], [6, 5, 2, 4, 3], [7, 6, 5, 2, 4, 3], [8, 7, 6, 5, 2, 4, 3], [9, 7, 6, 5, 2, 4, 3], [10, 8, 7, 6, 5, 2, 4, 3, 9], [11, 10, 8, 7, 6, 5, 2, 4, 3, 9], [12, 11, 10, 8, 7, 6, 5, 2, 4, 3, 9], [13, 12, 11, 10, 8, 7, 6, 5, 2, 4, 3, 9], [14, 13, 12, 11, 10, 8, 7, 6, 5, 2, 4, 3, 9], [15, 13, 12, 11, 10, 8, 7, 6, 5, 2, 4, 3, 9], [16, 13, 12, 11, 10, 8, 7, 6, 5, 2, 4, 3, 9], [17, 13, 12, 11, 10, 8, 7, 6, 5, 2, 4, 3, 9], [18, 13, 12, 11, 10, 8, 7, 6, 5, 2, 4, 3, 9], [19, 13, 12, 11, 10, 8, 7, 6, 5, 2, 4, 3, 9], [20, 13, 12, 11, 10, 8, 7, 6, 5, 2, 4, 3, 9], [21, 13, 12, 11, 10, 8, 7, 6, 5, 2, 4, 3, 9], [22, 13, 12, 11, 10, 8, 7, 6, 5, 2, 4, 3, 9], [23, 13, 12, 11, 10, 8, 7, 6, 5, 2, 4, 3, 9], [24, 13, 12, 11, 10, 8, 7, 6, 5, 2, 4, 3, 9, 23], [25, 7, 6, 5, 2, 4, 3, 24, 13, 12, 11, 10, 8, 9, 23], [26, 0, 1]] [] [27] (RMB (.slice (some ⟨b, fo, none⟩) pl.length pcap) (.slice (some ⟨g, 0, none⟩) (rl.length + 1) (rl.length + 1)) (.slice (some ⟨gN, 0, none⟩) (rl.length + 1) (rl.length + 1)) x i k q ⟨g, q, none⟩ ⟨b, fo + i, none⟩ ⟨gN, k, none⟩) ?Ab ?hAb (by kernel_rfl) ?hsb ?heb
                      case hAb =>
                        intro f
                        simp only [putS]
                        go_simp
                        rfl
                      case hsb =>
                        refine Steps.cons rfl ?_ (Steps.cons rfl ?_ (Steps.cons rfl ?_ (Steps.cons rfl ?_ (Steps.cons rfl ?_ (Steps.cons rfl ?_ (Steps.cons rfl ?_ (Steps.cons rfl ?_ (Steps.cons rfl ?_ (Steps.cons rfl ?_ (Steps.cons rfl ?_ (Steps.cons rfl ?_ (Steps.cons rfl ?_ (Steps.cons rfl ?_ (Steps.cons rfl ?_ (Steps.cons rfl ?_ (Steps.cons rfl ?_ (Steps.cons rfl ?_ (Steps.cons rfl ?_ (Steps.cons rfl ?_ (Steps.cons rfl ?_ (Steps.cons rfl ?_ (Steps.cons rfl ?_ (Steps.cons rfl ?_ (Steps.cons rfl ?_ (Steps.cons rfl ?_ (Steps.cons rfl ?_ Steps.nil))))))))))))))))))))))))))
                        · intro f lo hi W2 hb hd K hK
                          rw [if_pos (by rfl)]
                          go_simp
                          exact hK _ _ (Below.refl _ _) (fun V _ _ _ _ => rfl)
                        · intro f lo hi W2 hb hd K hK
                          rw [if_pos (by rfl)]
                          go_simp
                          exact hK _ _ (Below.refl _ _) (fun V _ _ _ _ => rfl)
                        · intro f lo hi W2 hb hd K hK
                          rw [if_pos (by rfl)]
                          go_simp
                          exact hK _ _ (Below.refl _ _) (fun V _ _ _ _ => rfl)
                        · intro f lo hi W2 hb hd K hK
                          rw [if_pos (by rfl)]
                          go_simp
                          exact hK _ _ (Below.refl _ _) (fun V _ _ _ _ => rfl)
                        · intro f lo hi W2 hb hd K hK
                          have e3 : f 3 = _ := (hd 3 (by decide) (by decide))
                          clear hd
                          try dsimp only at hK
                          generalize f 3 = x3 at e3 hK ⊢
                          subst e3
                          rw [if_pos (by rfl)]
                          go_simp
                          exact hK _ _ (Below.refl _ _) (fun V _ _ _ _ => rfl)
                        · intro f lo hi W2 hb hd K hK
                          have e2 : f 2 = _ := (hd 2 (by decide) (by decide))
                          have e4 : f 4 = _ := (hd 4 (by decide) (by decide))
                          clear hd
                          try dsimp only at hK
                          generalize f 2 = x2 at e2 hK ⊢
                          generalize f 4 = x4 at e4 hK ⊢
                          subst e2
                          subst e4
                          rw [if_pos (by rfl)]
                          go_simp
                          exact hK _ _ (Below.refl _ _) (fun V _ _ _ _ => rfl)
                        · intro f lo hi W2 hb hd K hK
                          have e5 : f 5 = _ := (hd 5 (by decide) (by decide))
                          clear hd
                          try dsimp only at hK
                          generalize f 5 = x5 at e5 hK ⊢
                          subst e5
                          rw [if_pos (by rfl)]
                          have k0 := (hb.cell (cell_blk c4)).trans c4
                          go_simp
                          exact hK _ _ (Below.refl _ _) (fun V _ _ _ _ => rfl)
                        · intro f lo hi W2 hb hd K hK
                          have e6 : f 6 = _ := (hd 6 (by decide) (by decide))
                          clear hd
                          try dsimp only at hK
                          generalize f 6 = x6 at e6 hK ⊢
                          subst e6
                          rw [if_pos (by rfl)]
                          go_simp
                          exact hK _ _ (Below.refl _ _) (fun V _ _ _ _ => rfl)
                        · intro f lo hi W2 hb hd K hK
                          have e7 : f 7 = _ := (hd 7 (by decide) (by decide))
                          clear hd
                          try dsimp only at hK
                          generalize f 7 = x7 at e7 hK ⊢
                          subst e7
                          rw [if_pos (by rfl)]
                          go_simp
                          exact hK _ _ (Below.refl _ _) (fun V _ _ _ _ => rfl)
                        · intro f lo hi W2 hb hd K hK
                          have e7 : f 7 = _ := (hd 7 (by decide) (by decide))
                          clear hd
                          try dsimp only at hK
                          generalize f 7 = x7 at e7 hK ⊢
                          subst e7
                          rw [if_pos (by rfl)]
                          go_simp
                          exact hK _ _ (Below.refl _ _) (fun V _ _ _ _ => rfl)
                        · intro f lo hi W2 hb hd K hK
                          have e8 : f 8 = _ := (hd 8 (by decide) (by decide))
                          have e9 : f 9 = _ := (hd 9 (by decide) (by decide))
                          have e7 : f 7 = _ := (hd 7 (by decide) (by decide))
                          clear hd
                          try dsimp only at hK
                          generalize f 8 = x8 at e8 hK ⊢
                          generalize f 9 = x9 at e9 hK ⊢
                          generalize f 7 = x7 at e7 hK ⊢
                          subst e8
                          subst e9
                          subst e7
                          rw [if_pos (by rfl)]
                          go_simp
                          exact hK _ _ (Below.refl _ _) (fun V _ _ _ _ => rfl)
                        · intro f lo hi W2 hb hd K hK
                          have e10 : f 10 = _ := (hd 10 (by decide) (by decide))
                          have e7 : f 7 = _ := (hd 7 (by decide) (by decide))
                          clear hd
                          try dsimp only at hK
                          generalize f 10 = x10 at e10 hK ⊢
                          generalize f 7 = x7 at e7 hK ⊢
                          subst e10
                          subst e7
                          rw [if_pos (by rfl)]
                          have k0 := (hb.cell (cell_blk c0)).trans c0
                          go_simp
                          exact hK _ _ (Below.refl _ _) (fun V _ _ _ _ => rfl)
                        · intro f lo hi W2 hb hd K hK
                          have e11 : f 11 = _ := (hd 11 (by decide) (by decide))
                          have e7 : f 7 = _ := (hd 7 (by decide) (by decide))
                          clear hd
                          try dsimp only at hK
                          generalize f 11 = x11 at e11 hK ⊢
                          generalize f 7 = x7 at e7 hK ⊢
                          subst e11
                          subst e7
                          rw [if_pos (by rfl)]
                          go_simp
                          exact hK _ _ (Below.refl _ _) (fun V _ _ _ _ => rfl)
                        · intro f lo hi W2 hb hd K hK
                          have e12 : f 12 = _ := (hd 12 (by decide) (by decide))
                          have e7 : f 7 = _ := (hd 7 (by decide) (by decide))
                          clear hd
                          try dsimp only at hK
                          generalize f 12 = x12 at e12 hK ⊢
                          generalize f 7 = x7 at e7 hK ⊢
                          subst e12
                          subst e7
                          rw [if_pos (by rfl)]
                          go_simp
                          exact hK _ _ (Below.refl _ _) (fun V _ _ _ _ => rfl)
                        · intro f lo hi W2 hb hd K hK
                          have e13 : f 13 = _ := (hd 13 (by decide) (by decide))
                          clear hd
                          try dsimp only at hK
                          generalize f 13 = x13 at e13 hK ⊢
                          subst e13
                          rw [if_neg (by exact Bool.false_ne_true)]
                          go_simp
                          exact hK _ _ (Below.refl _ _) (fun V _ _ _ _ => rfl)
                        · intro f lo hi W2 hb hd K hK
                          have e13 : f 13 = _ := (hd 13 (by decide) (by decide))
                          clear hd
                          try dsimp only at hK
                          generalize f 13 = x13 at e13 hK ⊢
                          subst e13
                          rw [if_neg (by exact Bool.false_ne_true)]
                          go_simp
                          exact hK _ _ (Below.refl _ _) (fun V _ _ _ _ => rfl)
                        · intro f lo hi W2 hb hd K hK
                          have e13 : f 13 = _ := (hd 13 (by decide) (by decide))
                          clear hd
                          try dsimp only at hK
                          generalize f 13 = x13 at e13 hK ⊢
                          subst e13
                          rw [if_neg (by exact Bool.false_ne_true)]
                          go_simp
                          exact hK _ _ (Below.refl _ _) (fun V _ _ _ _ => rfl)
                        · intro f lo hi W2 hb hd K hK
                          have e13 : f 13 = _ := (hd 13 (by decide) (by decide))
                          clear hd
                          try dsimp only at hK
                          generalize f 13 = x13 at e13 hK ⊢
                          subst e13
                          rw [if_neg (by exact Bool.false_ne_true)]
                          go_simp
                          exact hK _ _ (Below.refl _ _) (fun V _ _ _ _ => rfl)
                        · intro f lo hi W2 hb hd K hK
                          have e13 : f 13 = _ := (hd 13 (by decide) (by decide))
                          clear hd
                          try dsimp only at hK
                          generalize f 13 = x13 at e13 hK ⊢
                          subst e13
                          rw [if_neg (by exact Bool.false_ne_true)]
                          go_simp
                          exact hK _ _ (Below.refl _ _) (fun V _ _ _ _ => rfl)
                        · intro f lo hi W2 hb hd K hK
                          have e13 : f 13 = _ := (hd 13 (by decide) (by decide))
                          clear hd
                          try dsimp only at hK
                          generalize f 13 = x13 at e13 hK ⊢
                          subst e13
                          rw [if_neg (by exact Bool.false_ne_true)]
                          go_simp
                          exact hK _ _ (Below.refl _ _) (fun V _ _ _ _ => rfl)
                        · intro f lo hi W2 hb hd K hK
                          have e13 : f 13 = _ := (hd 13 (by decide) (by decide))
                          clear hd
                          try dsimp only at hK
                          generalize f 13 = x13 at e13 hK ⊢
                          subst e13
                          rw [if_neg (by exact Bool.false_ne_true)]
                          go_simp
                          exact hK _ _ (Below.refl _ _) (fun V _ _ _ _ => rfl)
                        · intro f lo hi W2 hb hd K hK
                          have e13 : f 13 = _ := (hd 13 (by decide) (by decide))
                          clear hd
                          try dsimp only at hK
                          generalize f 13 = x13 at e13 hK ⊢
                          subst e13
                          rw [if_neg (by exact Bool.false_ne_true)]
                          go_simp
                          exact hK _ _ (Below.refl _ _) (fun V _ _ _ _ => rfl)
                        · intro f lo hi W2 hb hd K hK
                          have e13 : f 13 = _ := (hd 13 (by decide) (by decide))
                          clear hd
                          try dsimp only at hK
                          generalize f 13 = x13 at e13 hK ⊢
                          subst e13
                          rw [if_neg (by exact Bool.false_ne_true)]
                          go_simp
                          exact hK _ _ (Below.refl _ _) (fun V _ _ _ _ => rfl)
                        · intro f lo hi W2 hb hd K hK
                          have e13 : f 13 = _ := (hd 13 (by decide) (by decide))
                          clear hd
                          try dsimp only at hK
                          generalize f 13 = x13 at e13 hK ⊢
                          subst e13
                          rw [if_neg (by exact Bool.false_ne_true)]
                          go_simp
                          exact hK _ _ (Below.refl _ _) (fun V _ _ _ _ => rfl)
                        · intro f lo hi W2 hb hd K hK
                          have e13 : f 13 = _ := (hd 13 (by decide) (by decide))
                          have e23 : f 23 = _ := (hd 23 (by decide) (by decide))
                          have e7 : f 7 = _ := (hd 7 (by decide) (by decide))
                          clear hd
                          try dsimp only at hK
                          generalize f 13 = x13 at e13 hK ⊢
                          generalize f 23 = x23 at e23 hK ⊢
                          generalize f 7 = x7 at e7 hK ⊢
                          subst e13
                          subst e23
                          subst e7
                          rw [if_pos (by rfl)]
                          go_simp
                          exact hK _ _ (Below.refl _ _) (fun V _ _ _ _ => rfl)
                        · intro f lo hi W2 hb hd K hK
                          have e7 : f 7 = _ := (hd 7 (by decide) (by decide))
                          have e24 : f 24 = _ := (hd 24 (by decide) (by decide))
                          clear hd
                          try dsimp only at hK
                          generalize f 7 = x7 at e7 hK ⊢
                          generalize f 24 = x24 at e24 hK ⊢
                          subst e7
                          subst e24
                          rw [if_pos (by rfl)]
                          go_simp
                          exact hK _ _ (Below.refl _ _) (fun V _ _ _ _ => rfl)
                        · intro f lo hi W2 hb hd K hK
                          have e0 : f 0 = _ := (hd 0 (by decide) (by decide))
                          have e1 : f 1 = _ := (hd 1 (by decide) (by decide))
                          clear hd
                          try dsimp only at hK
                          generalize f 0 = x0 at e0 hK ⊢
                          generalize f 1 = x1 at e1 hK ⊢
                          subst e0
                          subst e1
                          rw [if_pos (by rfl)]
                          go_simp
                          exact hK _ _ (Below.refl _ _) (fun V _ _ _ _ => rfl)
                      case heb =>
                        intro f lo hi W2 hb hR hbx hk
                        have e25 : f 25 = _ := hR 25 (by decide)
                        have e26 : f 26 = _ := hR 26 (by decide)
                        have HBE := hq hb
                        clear hR hbx hk hb
                        generalize f 25 = x25 at *
                        generalize f 26 = x26 at *
                        subst e25 e26
                        have hw2 := HWX.o.grow HBE.o
                        have k0 : W2.cell? ⟨gN, k, none⟩ = _ := (hw2.at_ k).trans (bC_at HKC.o)
                        have k1 := hw2.free k
                        have HV2 := hq (And.intro ((bC_set cur k true) ▸ hw2.put k (.bool true)) (((HBX.o.trans (HBE.o.mono HBX.o.size))).setCell (p := ⟨gN, k, none⟩) (Nat.le_of_eq HGN.o) (.bool true)))
                        clear c0 c4 c5 hu1 c3 hw2
                        refine wpOps_one rfl ?_
                        rw [if_pos (by rfl)]
                        go_simp
                        refine wpOps_done ?_
                        clear k0 k1
                        go_wp2_with fail
                        rw [← HGN.o]
                        go_roundg (gk - 1)
                        case measure => omega
                        case rel => exact ⟨k + 1, _, by omega, by omega, int_eq (by omega), hq (by rw [HGN.o]; exact HV2.o.1), HSS, hq (by have h := HV2.o.2; rw [← HGN.o] at h; exact h)⟩
                    | false =>
                      cases hse : (x == y) with
                      | true =>
                        have HSS := hq (HRS.o true (by rw [HZ.o, hsa, hse]; rfl))
                        clear HZ HRS
                        go_upto_region 15 with fail
                        refine go_flow (by kernel_rfl) [(0, 64), (1, 65), (2, 66), (3, 67), (4, 68), (5, 69), (6, 70), (7, 71), (8, 72), (9, 73), (10, 74), (11, 75), (12, 76), (13, 77), (14, 78), (15, 79), (16, 80), (17, 81), (18, 82), (19, 83), (20, 84), (21, 85), (22, 86), (23, 87), (24, 88), (25, 89), (26, 90)] [[0], [1], [2], [3], [4, 3], [5, 2, 4, 3], [6, 5, 2, 4, 3], [7, 6, 5, 2, 4, 3], [8, 7, 6, 5, 2, 4, 3], [9, 7, 6, 5, 2, 4, 3], [10, 8, 7, 6, 5, 2, 4, 3, 9], [11, 10, 8, 7, 6, 5, 2, 4, 3, 9], [12, 11, 10, 8, 7, 6, 5, 2, 4, 3, 9], [13, 12, 11, 10, 8, 7, 6, 5, 2, 4, 3, 9], [14, 13, 12, 11, 10, 8, 7, 6, 5, 2, 4, 3, 9], [15, 13, 12, 11, 10, 8, 7, 6, 5, 2, 4, 3, 9], [16, 14, 13, 12, 11, 10, 8, 7, 6, 5, 2, 4, 3, 9, 15], [17, 16, 14, 13, 12, 11, 10, 8, 7, 6, 5, 2, 4, 3, 9, 15], [18, 13, 12, 11, 10, 8, 7, 6, 5, 2, 4, 3, 9], [19, 13, 12, 11, 10, 8, 7, 6, 5, 2, 4, 3, 9], [20, 19, 13, 12, 11, 10, 8, 7, 6, 5, 2, 4, 3, 9], [21, 18, 13, 12, 11, 10, 8, 7, 6, 5, 2, 4, 3, 9, 20, 19], [22, 21, 18, 13, 12, 11, 10, 8, 7, 6, 5, 2, 4, 3, 9, 20, 19], [23, 17, 16, 14, 13, 12, 11, 10, 8, 7, 6, 5, 2, 4, 3, 9, 15, 22, 21, 18, 20, 19], [24, 13, 12, 11, 10, 8, 7, 6, 5, 2, 4, 3, 9, 23, 17, 16, 14, 15, 22, 21, 18, 20, 19], [25, 7, 6, 5, 2, 4, 3, 24, 13, 12, 11, 10, 8, 9, 23, 17, 16, 14, 15, 22, 21, 18, 20, 19], [26, 0, 1]] [] [27] (RMC (.slice (some ⟨b, fo, none⟩) pl.length pcap) (.slice (some ⟨b2, fo2, none⟩) rl.length rcap) (.slice (some ⟨g, 0, none⟩) (rl.length + 1) (rl.length + 1)) (.slice (some ⟨gN, 0, none⟩) (rl.length + 1) (rl.length + 1)) x y true i k q ⟨g, q, none⟩ ⟨b, fo + i, none⟩ ⟨b2, fo2 + q, none⟩ ⟨gN, k, none⟩) ?Ac ?hAc (by kernel_rfl) ?hsc ?hec
                        case hAc =>
                          intro f
                          simp only [putS]
                          go_simp
                          rfl
                        case hsc =>
                          refine Steps.cons rfl ?_ (Steps.cons rfl ?_ (Steps.cons rfl ?_ (Steps.cons rfl ?_ (Steps.cons rfl ?_ (Steps.cons rfl ?_ (Steps.cons rfl ?_ (Steps.cons rfl ?_ (Steps.cons rfl ?_ (Steps.cons rfl ?_ (Steps.cons rfl ?_ (Steps.cons rfl ?_ (Steps.cons rfl ?_ (Steps.cons rfl ?_ (Steps.cons rfl ?_ (Steps.cons rfl ?_ (Steps.cons rfl ?_ (Steps.cons rfl ?_ (Steps.cons rfl ?_ (Steps.cons rfl ?_ (Steps.cons rfl ?_ (Steps.cons rfl ?_ (Steps.cons rfl ?_ (Steps.cons rfl ?_ (Steps.cons rfl ?_ (Steps.cons rfl ?_ (Steps.cons rfl ?_ Steps.nil))))))))))))))))))))))))))
                          · intro f lo hi W2 hb hd K hK
                            rw [if_pos (by rfl)]
                            go_simp
                            exact hK _ _ (Below.refl _ _) (fun V _ _ _ _ => rfl)
                          · intro f lo hi W2 hb hd K hK
                            rw [if_pos (by rfl)]
                            go_simp
                            exact hK _ _ (Below.refl _ _) (fun V _ _ _ _ => rfl)
                          · intro f lo hi W2 hb hd K hK
                            rw [if_pos (by rfl)]
                            go_simp
                            exact hK _ _ (Below.refl _ _) (fun V _ _ _ _ => rfl)
                          · intro f lo hi W2 hb hd K hK
                            rw [if_pos (by rfl)]
                            go_simp
                            exact hK _ _ (Below.refl _ _) (fun V _ _ _ _ => rfl)
                          · intro f lo hi W2 hb hd K hK
                            have e3 : f 3 = _ := (hd 3 (by decide) (by decide))
                            clear hd
                            try dsimp only at hK
                            generalize f 3 = x3 at e3 hK ⊢
                            subst e3
                            rw [if_pos (by rfl)]
                            go_simp
                            exact hK _ _ (Below.refl _ _) (fun V _ _ _ _ => rfl)
                          · intro f lo hi W2 hb hd K hK
                            have e2 : f 2 = _ := (hd 2 (by decide) (by decide))
                            have e4 : f 4 = _ := (hd 4 (by decide) (by decide))
                            clear hd
                            try dsimp only at hK
                            generalize f 2 = x2 at e2 hK ⊢
                            generalize f 4 = x4 at e4 hK ⊢
                            subst e2
                            subst e4
                            rw [if_pos (by rfl)]
                            go_simp
                            exact hK _ _ (Below.refl _ _) (fun V _ _ _ _ => rfl)
                          · intro f lo hi W2 hb hd K hK
                            have e5 : f 5 = _ := (hd 5 (by decide) (by decide))
                            clear hd
                            try dsimp only at hK
                            generalize f 5 = x5 at e5 hK ⊢
                            subst e5
                            rw [if_pos (by rfl)]
                            have k0 := (hb.cell (cell_blk c4)).trans c4
                            go_simp
                            exact hK _ _ (Below.refl _ _) (fun V _ _ _ _ => rfl)
                          · intro f lo hi W2 hb hd K hK
                            have e6 : f 6 = _ := (hd 6 (by decide) (by decide))
                            clear hd
                            try dsimp only at hK
                            generalize f 6 = x6 at e6 hK ⊢
                            subst e6
                            rw [if_pos (by rfl)]
                            go_simp
                            exact hK _ _ (Below.refl _ _) (fun V _ _ _ _ => rfl)
                          · intro f lo hi W2 hb hd K hK
                            have e7 : f 7 = _ := (hd 7 (by decide) (by decide))
                            clear hd
                            try dsimp only at hK
                            generalize f 7 = x7 at e7 hK ⊢
                            subst e7
                            rw [if_pos (by rfl)]
                            go_simp
                            exact hK _ _ (Below.refl _ _) (fun V _ _ _ _ => rfl)
                          · intro f lo hi W2 hb hd K hK
                            have e7 : f 7 = _ := (hd 7 (by decide) (by decide))
                            clear hd
                            try dsimp only at hK
                            generalize f 7 = x7 at e7 hK ⊢
                            subst e7
                            rw [if_pos (by rfl)]
                            go_simp
                            exact hK _ _ (Below.refl _ _) (fun V _ _ _ _ => rfl)
                          · intro f lo hi W2 hb hd K hK
                            have e8 : f 8 = _ := (hd 8 (by decide) (by decide))
                            have e9 : f 9 = _ := (hd 9 (by decide) (by decide))
                            have e7 : f 7 = _ := (hd 7 (by decide) (by decide))
                            clear hd
                            try dsimp only at hK
                            generalize f 8 = x8 at e8 hK ⊢
                            generalize f 9 = x9 at e9 hK ⊢
                            generalize f 7 = x7 at e7 hK ⊢
                            subst e8
                            subst e9
                            subst e7
                            rw [if_pos (by rfl)]
                            go_simp
                            exact hK _ _ (Below.refl _ _) (fun V _ _ _ _ => rfl)
                          · intro f lo hi W2 hb hd K hK
                            have e10 : f 10 = _ := (hd 10 (by decide) (by decide))
                            have e7 : f 7 = _ := (hd 7 (by decide) (by decide))
                            clear hd
                            try dsimp only at hK
                            generalize f 10 = x10 at e10 hK ⊢
                            generalize f 7 = x7 at e7 hK ⊢
                            subst e10
                            subst e7
                            rw [if_pos (by rfl)]
                            have k0 := (hb.cell (cell_blk c0)).trans c0
                            go_simp
                            exact hK _ _ (Below.refl _ _) (fun V _ _ _ _ => rfl)
                          · intro f lo hi W2 hb hd K hK
                            have e11 : f 11 = _ := (hd 11 (by decide) (by decide))
                            have e7 : f 7 = _ := (hd 7 (by decide) (by decide))
                            clear hd
                            try dsimp only at hK
                            generalize f 11 = x11 at e11 hK ⊢
                            generalize f 7 = x7 at e7 hK ⊢
                            subst e11
                            subst e7
                            rw [if_pos (by rfl)]
                            go_simp
                            exact hK _ _ (Below.refl _ _) (fun V _ _ _ _ => rfl)
                          · intro f lo hi W2 hb hd K hK
                            have e12 : f 12 = _ := (hd 12 (by decide) (by decide))
                            have e7 : f 7 = _ := (hd 7 (by decide) (by decide))
                            clear hd
                            try dsimp only at hK
                            generalize f 12 = x12 at e12 hK ⊢
                            generalize f 7 = x7 at e7 hK ⊢
                            subst e12
                            subst e7
                            rw [if_pos (by rfl)]
                            go_simp
                            exact hK _ _ (Below.refl _ _) (fun V _ _ _ _ => rfl)
                          · intro f lo hi W2 hb hd K hK
                            have e13 : f 13 = _ := (hd 13 (by decide) (by decide))
                            clear hd
                            try dsimp only at hK
                            generalize f 13 = x13 at e13 hK ⊢
                            subst e13
                            rw [if_pos (by rfl)]
                            go_simp
                            exact hK _ _ (Below.refl _ _) (fun V _ _ _ _ => rfl)
                          · intro f lo hi W2 hb hd K hK
                            have e13 : f 13 = _ := (hd 13 (by decide) (by decide))
                            clear hd
                            try dsimp only at hK
                            generalize f 13 = x13 at e13 hK ⊢
                            subst e13
                            rw [if_pos (by rfl)]
                            go_simp
                            exact hK _ _ (Below.refl _ _) (fun V _ _ _ _ => rfl)
                          · intro f lo hi W2 hb hd K hK
                            have e14 : f 14 = _ := (hd 14 (by decide) (by decide))
                            have e15 : f 15 = _ := (hd 15 (by decide) (by decide))
                            have e13 : f 13 = _ := (hd 13 (by decide) (by decide))
                            clear hd
                            try dsimp only at hK
                            generalize f 14 = x14 at e14 hK ⊢
                            generalize f 15 = x15 at e15 hK ⊢
                            generalize f 13 = x13 at e13 hK ⊢
                            subst e14
                            subst e15
                            subst e13
                            rw [if_pos (by rfl)]
                            go_simp
                            exact hK _ _ (Below.refl _ _) (fun V _ _ _ _ => rfl)
                          · intro f lo hi W2 hb hd K hK
                            have e16 : f 16 = _ := (hd 16 (by decide) (by decide))
                            have e13 : f 13 = _ := (hd 13 (by decide) (by decide))
                            clear hd
                            try dsimp only at hK
                            generalize f 16 = x16 at e16 hK ⊢
                            generalize f 13 = x13 at e13 hK ⊢
                            subst e16
                            subst e13
                            rw [if_pos (by rfl)]
                            have k0 := (hb.cell (cell_blk c0)).trans c0
                            go_simp
                            exact hK _ _ (Below.refl _ _) (fun V _ _ _ _ => rfl)
                          · intro f lo hi W2 hb hd K hK
                            have e13 : f 13 = _ := (hd 13 (by decide) (by decide))
                            clear hd
                            try dsimp only at hK
                            generalize f 13 = x13 at e13 hK ⊢
                            subst e13
                            rw [if_pos (by rfl)]
                            go_simp
                            exact hK _ _ (Below.refl _ _) (fun V _ _ _ _ => rfl)
                          · intro f lo hi W2 hb hd K hK
                            have e13 : f 13 = _ := (hd 13 (by decide) (by decide))
                            clear hd
                            try dsimp only at hK
                            generalize f 13 = x13 at e13 hK ⊢
                            subst e13
                            rw [if_pos (by rfl)]
                            go_simp
                            exact hK _ _ (Below.refl _ _) (fun V _ _ _ _ => rfl)
                          · intro f lo hi W2 hb hd K hK
                            have e19 : f 19 = _ := (hd 19 (by decide) (by decide))
                            have e13 : f 13 = _ := (hd 13 (by decide) (by decide))
                            clear hd
                            try dsimp only at hK
                            generalize f 19 = x19 at e19 hK ⊢
                            generalize f 13 = x13 at e13 hK ⊢
                            subst e19
                            subst e13
                            rw [if_pos (by rfl)]
                            go_simp
                            exact hK _ _ (Below.refl _ _) (fun V _ _ _ _ => rfl)
                          · intro f lo hi W2 hb hd K hK
                            have e18 : f 18 = _ := (hd 18 (by decide) (by decide))
                            have e20 : f 20 = _ := (hd 20 (by decide) (by decide))
                            have e13 : f 13 = _ := (hd 13 (by decide) (by decide))
                            clear hd
                            try dsimp only at hK
                            generalize f 18 = x18 at e18 hK ⊢
                            generalize f 20 = x20 at e20 hK ⊢
                            generalize f 13 = x13 at e13 hK ⊢
                            subst e18
                            subst e20
                            subst e13
                            rw [if_pos (by rfl)]
                            go_simp
                            exact hK _ _ (Below.refl _ _) (fun V _ _ _ _ => rfl)
                          · intro f lo hi W2 hb hd K hK
                            have e21 : f 21 = _ := (hd 21 (by decide) (by decide))
                            have e13 : f 13 = _ := (hd 13 (by decide) (by decide))
                            clear hd
                            try dsimp only at hK
                            generalize f 21 = x21 at e21 hK ⊢
                            generalize f 13 = x13 at e13 hK ⊢
                            subst e21
                            subst e13
                            rw [if_pos (by rfl)]
                            have k0 := (hb.cell (cell_blk c5)).trans c5
                            go_simp
                            exact hK _ _ (Below.refl _ _) (fun V _ _ _ _ => rfl)
                          · intro f lo hi W2 hb hd K hK
                            have e17 : f 17 = _ := (hd 17 (by decide) (by decide))
                            have e22 : f 22 = _ := (hd 22 (by decide) (by decide))
                            have e13 : f 13 = _ := (hd 13 (by decide) (by decide))
                            clear hd
                            try dsimp only at hK
                            generalize f 17 = x17 at e17 hK ⊢
                            generalize f 22 = x22 at e22 hK ⊢
                            generalize f 13 = x13 at e13 hK ⊢
                            subst e17
                            subst e22
                            subst e13
                            rw [if_pos (by rfl)]
                            go_simp
                            exact hK _ _ (Below.refl _ _) (fun V _ _ _ _ => rfl)
                          · intro f lo hi W2 hb hd K hK
                            have e13 : f 13 = _ := (hd 13 (by decide) (by decide))
                            have e23 : f 23 = _ := (hd 23 (by decide) (by decide))
                            have e7 : f 7 = _ := (hd 7 (by decide) (by decide))
                            clear hd
                            try dsimp only at hK
                            generalize f 13 = x13 at e13 hK ⊢
                            generalize f 23 = x23 at e23 hK ⊢
                            generalize f 7 = x7 at e7 hK ⊢
                            subst e13
                            subst e23
                            subst e7
                            rw [if_pos (by rfl)]
                            go_simp
                            exact hK _ _ (Below.refl _ _) (fun V _ _ _ _ => rfl)
                          · intro f lo hi W2 hb hd K hK
                            have e7 : f 7 = _ := (hd 7 (by decide) (by decide))
                            have e24 : f 24 = _ := (hd 24 (by decide) (by decide))
                            clear hd
                            try dsimp only at hK
                            generalize f 7 = x7 at e7 hK ⊢
                            generalize f 24 = x24 at e24 hK ⊢
                            subst e7
                            subst e24
                            rw [if_pos (by rfl)]
                            go_simp
                            exact hK _ _ (Below.refl _ _) (fun V _ _ _ _ => rfl)
                          · intro f lo hi W2 hb hd K hK
                            have e0 : f 0 = _ := (hd 0 (by decide) (by decide))
                            have e1 : f 1 = _ := (hd 1 (by decide) (by decide))
                            clear hd
                            try dsimp only at hK
                            generalize f 0 = x0 at e0 hK ⊢
                            generalize f 1 = x1 at e1 hK ⊢
                            subst e0
                            subst e1
                            rw [if_pos (by rfl)]
                            go_simp
                            exact hK _ _ (Below.refl _ _) (fun V _ _ _ _ => rfl)
                        case hec =>
                          intro f lo hi W2 hb hR hbx hk
                          have e25 : f 25 = _ := hR 25 (by decide)
                          have e26 : f 26 = _ := hR 26 (by decide)
                          have HBE := hq hb
                          clear hR hbx hk hb
                          generalize f 25 = x25 at *
                          generalize f 26 = x26 at *
                          subst e25 e26
                          have hw2 := HWX.o.grow HBE.o
                          have k0 : W2.cell? ⟨gN, k, none⟩ = _ := (hw2.at_ k).trans (bC_at HKC.o)
                          have k1 := hw2.free k
                          have HV2 := hq (And.intro ((bC_set cur k true) ▸ hw2.put k (.bool true)) (((HBX.o.trans (HBE.o.mono HBX.o.size))).setCell (p := ⟨gN, k, none⟩) (Nat.le_of_eq HGN.o) (.bool true)))
                          clear c0 c4 c5 hu1 c3 hw2
                          refine wpOps_one rfl ?_
                          rw [if_pos (by rfl)]
                          go_simp
                          refine wpOps_done ?_
                          clear k0 k1
                          go_wp2_with fail
                          rw [← HGN.o]
                          go_roundg (gk - 1)
                          case measure => omega
                          case rel => exact ⟨k + 1, _, by omega, by omega, int_eq (by omega), hq (by rw [HGN.o]; exact HV2.o.1), HSS, hq (by have h := HV2.o.2; rw [← HGN.o] at h; exact h)⟩
                      | false =>
                        have HSS := hq (HRS.o false (by rw [HZ.o, hsa, hse]; rfl))
                        clear HZ HRS
                        go_upto_region 15 with fail
                        refine go_flow (by kernel_rfl) [(0, 64), (1, 65), (2, 66), (3, 67), (4, 68), (5, 69), (6, 70), (7, 71), (8, 72), (9, 73), (10, 74), (11, 75), (12, 76), (13, 77), (14, 78), (15, 79), (16, 80), (17, 81), (18, 82), (19, 83), (20, 84), (21, 85), (22, 86), (23, 87), (24, 88), (25, 89), (26, 90)] [[0], [1], [2], [3], [4, 3], [5, 2, 4, 3], [6, 5, 2, 4, 3], [7, 6, 5, 2, 4, 3], [8, 7, 6, 5, 2, 4, 3], [9, 7, 6, 5, 2, 4, 3], [10, 8, 7, 6, 5, 2, 4, 3, 9], [11, 10, 8, 7, 6, 5, 2, 4, 3, 9], [12, 11, 10, 8, 7, 6, 5, 2, 4, 3, 9], [13, 12, 11, 10, 8, 7, 6, 5, 2, 4, 3, 9], [14, 13, 12, 11, 10, 8, 7, 6, 5, 2, 4, 3, 9], [15, 13, 12, 11, 10, 8, 7, 6, 5, 2, 4, 3, 9], [16, 14, 13, 12, 11, 10, 8, 7, 6, 5, 2, 4, 3, 9, 15], [17, 16, 14, 13, 12, 11, 10, 8, 7, 6, 5, 2, 4, 3, 9, 15], [18, 13, 12, 11, 10, 8, 7, 6, 5, 2, 4, 3, 9], [19, 13, 12, 11, 10, 8, 7, 6, 5, 2, 4, 3, 9], [20, 19, 13, 12, 11, 10, 8, 7, 6, 5, 2, 4, 3, 9], [21, 18, 13, 12, 11, 10, 8, 7, 6, 5, 2, 4, 3, 9, 20, 19], [22, 21, 18, 13, 12, 11, 10, 8, 7, 6, 5, 2, 4, 3, 9, 20, 19], [23, 17, 16, 14, 13, 12, 11, 10, 8, 7, 6, 5, 2, 4, 3, 9, 15, 22, 21, 18, 20, 19], [24, 13, 12, 11, 10, 8, 7, 6, 5, 2, 4, 3, 9, 23, 17, 16, 14, 15, 22, 21, 18, 20, 19], [25, 7, 6, 5, 2, 4, 3, 24, 13, 12, 11, 10, 8, 9, 23, 17, 16, 14, 15, 22, 21, 18, 20, 19], [26, 0, 1]] [] [27] (RMC (.slice (some ⟨b, fo, none⟩) pl.length pcap) (.slice (some ⟨b2, fo2, none⟩) rl.length rcap) (.slice (some ⟨g, 0, none⟩) (rl.length + 1) (rl.length + 1)) (.slice (some ⟨gN, 0, none⟩) (rl.length + 1) (rl.length + 1)) x y false i k q ⟨g, q, none⟩ ⟨b, fo + i, none⟩ ⟨b2, fo2 + q, none⟩ ⟨gN, k, none⟩) ?Ad ?hAd (by kernel_rfl) ?hsd ?hed
                        case hAd =>
                          intro f
                          simp only [putS]
                          go_simp
                          rfl
                        case hsd =>
                          refine Steps.cons rfl ?_ (Steps.cons rfl ?_ (Steps.cons rfl ?_ (Steps.cons rfl ?_ (Steps.cons rfl ?_ (Steps.cons rfl ?_ (Steps.cons rfl ?_ (Steps.cons rfl ?_ (Steps.cons rfl ?_ (Steps.cons rfl ?_ (Steps.cons rfl ?_ (Steps.cons rfl ?_ (Steps.cons rfl ?_ (Steps.cons rfl ?_ (Steps.cons rfl ?_ (Steps.cons rfl ?_ (Steps.cons rfl ?_ (Steps.cons rfl ?_ (Steps.cons rfl ?_ (Steps.cons rfl ?_ (Steps.cons rfl ?_ (Steps.cons rfl ?_ (Steps.cons rfl ?_ (Steps.cons rfl ?_ (Steps.cons rfl ?_ (Steps.cons rfl ?_ (Steps.cons rfl ?_ Steps.nil))))))))))))))))))))))))))
                          · intro f lo hi W2 hb hd K hK
                            rw [if_pos (by rfl)]
                            go_simp
                            exact hK _ _ (Below.refl _ _) (fun V _ _ _ _ => rfl)
                          · intro f lo hi W2 hb hd K hK
                            rw [if_pos (by rfl)]
                            go_simp
                            exact hK _ _ (Below.refl _ _) (fun V _ _ _ _ => rfl)
                          · intro f lo hi W2 hb hd K hK
                            rw [if_pos (by rfl)]
                            go_simp
                            exact hK _ _ (Below.refl _ _) (fun V _ _ _ _ => rfl)
                          · intro f lo hi W2 hb hd K hK
                            rw [if_pos (by rfl)]
                            go_simp
                            exact hK _ _ (Below.refl _ _) (fun V _ _ _ _ => rfl)
                          · intro f lo hi W2 hb hd K hK
                            have e3 : f 3 = _ := (hd 3 (by decide) (by decide))
                            clear hd
                            try dsimp only at hK
                            generalize f 3 = x3 at e3 hK ⊢
                            subst e3
                            rw [if_pos (by rfl)]
                            go_simp
                            exact hK _ _ (Below.refl _ _) (fun V _ _ _ _ => rfl)
                          · intro f lo hi W2 hb hd K hK
                            have e2 : f 2 = _ := (hd 2 (by decide) (by decide))
                            have e4 : f 4 = _ := (hd 4 (by decide) (by decide))
                            clear hd
                            try dsimp only at hK
                            generalize f 2 = x2 at e2 hK ⊢
                            generalize f 4 = x4 at e4 hK ⊢
                            subst e2
                            subst e4
                            rw [if_pos (by rfl)]
                            go_simp
                            exact hK _ _ (Below.refl _ _) (fun V _ _ _ _ => rfl)
                          · intro f lo hi W2 hb hd K hK
                            have e5 : f 5 = _ := (hd 5 (by decide) (by decide))
                            clear hd
                            try dsimp only at hK
                            generalize f 5 = x5 at e5 hK ⊢
                            subst e5
                            rw [if_pos (by rfl)]
                            have k0 := (hb.cell (cell_blk c4)).trans c4
                            go_simp
                            exact hK _ _ (Below.refl _ _) (fun V _ _ _ _ => rfl)
                          · intro f lo hi W2 hb hd K hK
                            have e6 : f 6 = _ := (hd 6 (by decide) (by decide))
                            clear hd
                            try dsimp only at hK
                            generalize f 6 = x6 at e6 hK ⊢
                            subst e6
                            rw [if_pos (by rfl)]
                            go_simp
                            exact hK _ _ (Below.refl _ _) (fun V _ _ _ _ => rfl)
                          · intro f lo hi W2 hb hd K hK
                            have e7 : f 7 = _ := (hd 7 (by decide) (by decide))
                            clear hd
                            try dsimp only at hK
                            generalize f 7 = x7 at e7 hK ⊢
                            subst e7
                            rw [if_pos (by rfl)]
                            go_simp
                            exact hK _ _ (Below.refl _ _) (fun V _ _ _ _ => rfl)
                          · intro f lo hi W2 hb hd K hK
                            have e7 : f 7 = _ := (hd 7 (by decide) (by decide))
                            clear hd
                            try dsimp only at hK
                            generalize f 7 = x7 at e7 hK ⊢
                            subst e7
                            rw [if_pos (by rfl)]
                            go_simp
                            exact hK _ _ (Below.refl _ _) (fun V _ _ _ _ => rfl)
                          · intro f lo hi W2 hb hd K hK
                            have e8 : f 8 = _ := (hd 8 (by decide) (by decide))
                            have e9 : f 9 = _ := (hd 9 (by decide) (by decide))
                            have e7 : f 7 = _ := (hd 7 (by decide) (by decide))
                            clear hd
                            try dsimp only at hK
                            generalize f 8 = x8 at e8 hK ⊢
                            generalize f 9 = x9 at e9 hK ⊢
                            generalize f 7 = x7 at e7 hK ⊢
                            subst e8
                            subst e9
                            subst e7
                            rw [if_pos (by rfl)]
                            go_simp
                            exact hK _ _ (Below.refl _ _) (fun V _ _ _ _ => rfl)
                          · intro f lo hi W2 hb hd K hK
                            have e10 : f 10 = _ := (hd 10 (by decide) (by decide))
                            have e7 : f 7 = _ := (hd 7 (by decide) (by decide))
                            clear hd
                            try dsimp only at hK
                            generalize f 10 = x10 at e10 hK ⊢
                            generalize f 7 = x7 at e7 hK ⊢
                            subst e10
                            subst e7
                            rw [if_pos (by rfl)]
                            have k0 := (hb.cell (cell_blk c0)).trans c0
                            go_simp
                            exact hK _ _ (Below.refl _ _) (fun V _ _ _ _ => rfl)
                          · intro f lo hi W2 hb hd K hK
                            have e11 : f 11 = _ := (hd 11 (by decide) (by decide))
                            have e7 : f 7 = _ := (hd 7 (by decide) (by decide))
                            clear hd
                            try dsimp only at hK
                            generalize f 11 = x11 at e11 hK ⊢
                            generalize f 7 = x7 at e7 hK ⊢
                            subst e11
                            subst e7
                            rw [if_pos (by rfl)]
                            go_simp
                            exact hK _ _ (Below.refl _ _) (fun V _ _ _ _ => rfl)
                          · intro f lo hi W2 hb hd K hK
                            have e12 : f 12 = _ := (hd 12 (by decide) (by decide))
                            have e7 : f 7 = _ := (hd 7 (by decide) (by decide))
                            clear hd
                            try dsimp only at hK
                            generalize f 12 = x12 at e12 hK ⊢
                            generalize f 7 = x7 at e7 hK ⊢
                            subst e12
                            subst e7
                            rw [if_pos (by rfl)]
                            go_simp
                            exact hK _ _ (Below.refl _ _) (fun V _ _ _ _ => rfl)
                          · intro f lo hi W2 hb hd K hK
                            have e13 : f 13 = _ := (hd 13 (by decide) (by decide))
                            clear hd
                            try dsimp only at hK
                            generalize f 13 = x13 at e13 hK ⊢
                            subst e13
                            rw [if_pos (by rfl)]
                            go_simp
                            exact hK _ _ (Below.refl _ _) (fun V _ _ _ _ => rfl)
                          · intro f lo hi W2 hb hd K hK
                            have e13 : f 13 = _ := (hd 13 (by decide) (by decide))
                            clear hd
                            try dsimp only at hK
                            generalize f 13 = x13 at e13 hK ⊢
                            subst e13
                            rw [if_pos (by rfl)]
                            go_simp
                            exact hK _ _ (Below.refl _ _) (fun V _ _ _ _ => rfl)
                          · intro f lo hi W2 hb hd K hK
                            have e14 : f 14 = _ := (hd 14 (by decide) (by decide))
                            have e15 : f 15 = _ := (hd 15 (by decide) (by decide))
                            have e13 : f 13 = _ := (hd 13 (by decide) (by decide))
                            clear hd
                            try dsimp only at hK
                            generalize f 14 = x14 at e14 hK ⊢
                            generalize f 15 = x15 at e15 hK ⊢
                            generalize f 13 = x13 at e13 hK ⊢
                            subst e14
                            subst e15
                            subst e13
                            rw [if_pos (by rfl)]
                            go_simp
                            exact hK _ _ (Below.refl _ _) (fun V _ _ _ _ => rfl)
                          · intro f lo hi W2 hb hd K hK
                            have e16 : f 16 = _ := (hd 16 (by decide) (by decide))
                            have e13 : f 13 = _ := (hd 13 (by decide) (by decide))
                            clear hd
                            try dsimp only at hK
                            generalize f 16 = x16 at e16 hK ⊢
                            generalize f 13 = x13 at e13 hK ⊢
                            subst e16
                            subst e13
                            rw [if_pos (by rfl)]
                            have k0 := (hb.cell (cell_blk c0)).trans c0
                            go_simp
                            exact hK _ _ (Below.refl _ _) (fun V _ _ _ _ => rfl)
                          · intro f lo hi W2 hb hd K hK
                            have e13 : f 13 = _ := (hd 13 (by decide) (by decide))
                            clear hd
                            try dsimp only at hK
                            generalize f 13 = x13 at e13 hK ⊢
                            subst e13
                            rw [if_pos (by rfl)]
                            go_simp
                            exact hK _ _ (Below.refl _ _) (fun V _ _ _ _ => rfl)
                          · intro f lo hi W2 hb hd K hK
                            have e13 : f 13 = _ := (hd 13 (by decide) (by decide))
                            clear hd
                            try dsimp only at hK
                            generalize f 13 = x13 at e13 hK ⊢
                            subst e13
                            rw [if_pos (by rfl)]
                            go_simp
                            exact hK _ _ (Below.refl _ _) (fun V _ _ _ _ => rfl)
                          · intro f lo hi W2 hb hd K hK
                            have e19 : f 19 = _ := (hd 19 (by decide) (by decide))
                            have e13 : f 13 = _ := (hd 13 (by decide) (by decide))
                            clear hd
                            try dsimp only at hK
                            generalize f 19 = x19 at e19 hK ⊢
                            generalize f 13 = x13 at e13 hK ⊢
                            subst e19
                            subst e13
                            rw [if_pos (by rfl)]
                            go_simp
                            exact hK _ _ (Below.refl _ _) (fun V _ _ _ _ => rfl)
                          · intro f lo hi W2 hb hd K hK
                            have e18 : f 18 = _ := (hd 18 (by decide) (by decide))
                            have e20 : f 20 = _ := (hd 20 (by decide) (by decide))
                            have e13 : f 13 = _ := (hd 13 (by decide) (by decide))
                            clear hd
                            try dsimp only at hK
                            generalize f 18 = x18 at e18 hK ⊢
                            generalize f 20 = x20 at e20 hK ⊢
                            generalize f 13 = x13 at e13 hK ⊢
                            subst e18
                            subst e20
                            subst e13
                            rw [if_pos (by rfl)]
                            go_simp
                            exact hK _ _ (Below.refl _ _) (fun V _ _ _ _ => rfl)
                          · intro f lo hi W2 hb hd K hK
                            have e21 : f 21 = _ := (hd 21 (by decide) (by decide))
                            have e13 : f 13 = _ := (hd 13 (by decide) (by decide))
                            clear hd
                            try dsimp only at hK
                            generalize f 21 = x21 at e21 hK ⊢
                            generalize f 13 = x13 at e13 hK ⊢
                            subst e21
                            subst e13
                            rw [if_pos (by rfl)]
                            have k0 := (hb.cell (cell_blk c5)).trans c5
                            go_simp
                            exact hK _ _ (Below.refl _ _) (fun V _ _ _ _ => rfl)
                          · intro f lo hi W2 hb hd K hK
                            have e17 : f 17 = _ := (hd 17 (by decide) (by decide))
                            have e22 : f 22 = _ := (hd 22 (by decide) (by decide))
                            have e13 : f 13 = _ := (hd 13 (by decide) (by decide))
                            clear hd
                            try dsimp only at hK
                            generalize f 17 = x17 at e17 hK ⊢
                            generalize f 22 = x22 at e22 hK ⊢
                            generalize f 13 = x13 at e13 hK ⊢
                            subst e17
                            subst e22
                            subst e13
                            rw [if_pos (by rfl)]
                            go_simp
                            exact hK _ _ (Below.refl _ _) (fun V _ _ _ _ => rfl)
                          · intro f lo hi W2 hb hd K hK
                            have e13 : f 13 = _ := (hd 13 (by decide) (by decide))
                            have e23 : f 23 = _ := (hd 23 (by decide) (by decide))
                            have e7 : f 7 = _ := (hd 7 (by decide) (by decide))
                            clear hd
                            try dsimp only at hK
                            generalize f 13 = x13 at e13 hK ⊢
                            generalize f 23 = x23 at e23 hK ⊢
                            generalize f 7 = x7 at e7 hK ⊢
                            subst e13
                            subst e23
                            subst e7
                            rw [if_pos (by rfl)]
                            go_simp
                            exact hK _ _ (Below.refl _ _) (fun V _ _ _ _ => rfl)
                          · intro f lo hi W2 hb hd K hK
                            have e7 : f 7 = _ := (hd 7 (by decide) (by decide))
                            have e24 : f 24 = _ := (hd 24 (by decide) (by decide))
                            clear hd
                            try dsimp only at hK
                            generalize f 7 = x7 at e7 hK ⊢
                            generalize f 24 = x24 at e24 hK ⊢
                            subst e7
                            subst e24
                            rw [if_pos (by rfl)]
                            go_simp
                            exact hK _ _ (Below.refl _ _) (fun V _ _ _ _ => rfl)
                          · intro f lo hi W2 hb hd K hK
                            have e0 : f 0 = _ := (hd 0 (by decide) (by decide))
                            have e1 : f 1 = _ := (hd 1 (by decide) (by decide))
                            clear hd
                            try dsimp only at hK
                            generalize f 0 = x0 at e0 hK ⊢
                            generalize f 1 = x1 at e1 hK ⊢
                            subst e0
                            subst e1
                            rw [if_pos (by rfl)]
                            go_simp
                            exact hK _ _ (Below.refl _ _) (fun V _ _ _ _ => rfl)
                        case hed =>
                          intro f lo hi W2 hb hR hbx hk
                          have e25 : f 25 = _ := hR 25 (by decide)
                          have e26 : f 26 = _ := hR 26 (by decide)
                          have HBE := hq hb
                          clear hR hbx hk hb
                          generalize f 25 = x25 at *
                          generalize f 26 = x26 at *
                          subst e25 e26
                          have hw2 := HWX.o.grow HBE.o
                          have k0 : W2.cell? ⟨gN, k, none⟩ = _ := (hw2.at_ k).trans (bC_at HKC.o)
                          have k1 := hw2.free k
                          have HV2 := hq (And.intro ((bC_set cur k false) ▸ hw2.put k (.bool false)) (((HBX.o.trans (HBE.o.mono HBX.o.size))).setCell (p := ⟨gN, k, none⟩) (Nat.le_of_eq HGN.o) (.bool false)))
                          clear c0 c4 c5 hu1 c3 hw2
                          refine wpOps_one rfl ?_
                          rw [if_pos (by rfl)]
                          go_simp
                          refine wpOps_done ?_
                          clear k0 k1
                          go_wp2_with fail
                          rw [← HGN.o]
                          go_roundg (gk - 1)
                          case measure => omega
                          case rel => exact ⟨k + 1, _, by omega, by omega, int_eq (by omega), hq (by rw [HGN.o]; exact HV2.o.1), HSS, hq (by have h := HV2.o.2; rw [← HGN.o] at h; exact h)⟩
            · have hkz : ¬ (k : Int) ≤ (rl.length : Int) := by omega
              have HE : Hq (cur = T) := hq (by
                have : k = T.length := by have := HTL.o; omega
                subst this
                exact hcur.o.done)
              have HWT := hq (HE.o ▸ hw.o)
              have HBT := hq (HBW.o _ hb.o)
              clear HN HM HM2 HP HPO HRO HPC HRC HFW HBW hw hb hcur HE
              go_wp2_with fail
              go_roundg (go - 1)
              case measure => omega
              case rel => exact ⟨i + 1, _, by omega, by omega, int_eq (by omega), rfl, hq (by rw [HTE.o]; exact HWT.o), HBT⟩
        · have hiz : ¬ (i : Int) < (pl.length : Int) := by omega
          have hi : i = pl.length := by omega
          have hw2 := hw.o
          rw [hi, List.take_length] at hw2
          have c0 := hw2.at_ rl.length
          rw [bC_at (by rw [fitsM_len]; omega)] at c0
          have hln : (rl.length : Int) < (rl.length : Int) + 1 := by omega
          have HV2 := hq (HP.o _ wo (by rw [HM2.o, List.getD_eq_getElem?_getD, List.getElem?_eq_getElem (by rw [fitsM_len]; omega)]) hb.o)
          clear HPO HRO HM HM2 HP hw hb hw2 hi
          go_wp2_with fail
          first | exact HV2.o | (go_ret; exact HV2.o)
end Go.Proofs.YtmadgdafgkleiaaDoor

