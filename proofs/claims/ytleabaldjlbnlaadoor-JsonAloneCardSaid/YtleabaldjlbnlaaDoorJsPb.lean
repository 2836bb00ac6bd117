/-
  WALKS: json.Path, json.Slice, and the document's.
  WALKS: the document's Slice; the law JsonPaths.
-/
import Derived.Test.YtleabaldjlbnlaaDoorJsZ
import Derived.Test.YtleabaldjlbnlaaDoorLexAlone
namespace Go.Proofs.YtleabaldjlbnlaaDoor
open Go.RowKit

/-- is a byte in a node? -/
def inN (ns : List JN) (z : Int) (i : Nat) : Bool := match ns[i]? with
  | some n => decide ((n.a : Int) ≤ z) && decide (z < (n.b : Int))
  | none => false
def pathTo (ns : List JN) (z : Int) (k : Nat) : List Nat := (List.range k).filter (inN ns z)
theorem pathTo_yes {ns : List JN} {z : Int} {k : Nat} (h : inN ns z k = true) : pathTo ns z (k + 1) = pathTo ns z k ++ [k] := by
  unfold pathTo; rw [List.range_succ, List.filter_append]; simp [h]
theorem pathTo_no {ns : List JN} {z : Int} {k : Nat} (h : inN ns z k = false) : pathTo ns z (k + 1) = pathTo ns z k := by
  unfold pathTo; rw [List.range_succ, List.filter_append]; simp [h]
theorem pathTo_len (ns : List JN) (z : Int) (k : Nat) : (pathTo ns z k).length ≤ k := by
  unfold pathTo
  have := List.length_filter_le (inN ns z) (List.range k)
  rw [List.length_range] at this
  exact this
theorem inN_at {nv : List NV} {z : Int} {k : Nat} (h : k < nv.length) : inN (nv.map NV.n) z k = (decide ((nv[k].n.a : Int) ≤ z) && decide (z < (nv[k].n.b : Int))) := by
  unfold inN; simp [h]
def PathPost (B : Nat) (l : List Nat) (e : Ending) (W' : World) : Prop := ∃ v, e = .returned (.tuple #[v, .bool (decide (0 < l.length))]) ∧ W'.ownsRow B 3 1 v l.length (kidC l)
set_option maxHeartbeats 4000000 in
set_option maxRecDepth 1000000 in
theorem jpath_any {B : Nat} {nv : List NV} {vN : Value} (s : ByteArray) (z : Int) {W : World} (hd : DocIn B nv vN W) :
    Calls Tryd.prog 14 #[.agg #[.string s, vN], .int .i64 z] W fun e W' => PathPost W.heap.size (pathTo (nv.map NV.n) z nv.length) e W' ∧ Below W.heap.size W W' := by
  have HD := hq hd
  obtain ⟨na, nc, hnv⟩ := row_shape hd.nd
  subst hnv
  have hn4 := hd.n4
  have hw0 := (Whole.made W 25 #[.string s, .slice na nv.length nc]).at_ 1
  have HBW := hq (below_alloc W (.cells #[.string s, .slice na nv.length nc] 25))
  have hsz : W.heap.size ≤ (W.alloc (.cells #[.string s, .slice na nv.length nc] 25)).heap.size := HBW.o.size
  clear hd
  have HPP : Hq (∀ v W', W'.ownsRow W.heap.size 3 1 v (pathTo (nv.map NV.n) z nv.length).length (kidC (pathTo (nv.map NV.n) z nv.length)) → Below W.heap.size W W' → PathPost W.heap.size (pathTo (nv.map NV.n) z nv.length) (.returned (.tuple #[v, .bool (decide (0 < (pathTo (nv.map NV.n) z nv.length).length))])) W' ∧ Below W.heap.size W W') := hq (fun v W' h1 h2 => ⟨⟨v, rfl, h1⟩, h2⟩)
  generalize hPP : (fun e W' => PathPost W.heap.size (pathTo (nv.map NV.n) z nv.length) e W' ∧ Below W.heap.size W W') = PP
  have HP2 : Hq (∀ v W', W'.ownsRow W.heap.size 3 1 v (pathTo (nv.map NV.n) z nv.length).length (kidC (pathTo (nv.map NV.n) z nv.length)) → Below W.heap.size W W' → PP (.returned (.tuple #[v, .bool (decide (0 < (pathTo (nv.map NV.n) z nv.length).length))])) W') := hq (by subst hPP; exact HPP.o)
  clear hPP HPP
  obtain ⟨i0, hi0, hz0, hz1, hz2⟩ := info_parts infoI
  go_enter Tryd.func14, Tryd.ntmps14
  go_wp2_with fail
  generalize W.alloc (.cells #[.string s, .slice na nv.length nc] 25) = W1 at *
  go_loopw [6, 12] (fun v i wr => ∃ k : Nat, k ≤ nv.length ∧ i = .int .i64 (k : Int) ∧ Hq (wr.ownsRow W.heap.size 3 1 v (pathTo (nv.map NV.n) z k).length (kidC (pathTo (nv.map NV.n) z k))) ∧ Hq (Below W.heap.size W wr)) (fun _ i _ => nv.length - (intOf i).toNat)
  case atStart => exact ⟨0, Nat.zero_le _, rfl, hq (World.ownsRow_nil _ _ _ _), HBW⟩
  case round =>
    obtain ⟨k, hk, rfl, hrow, hb⟩ := hrel
    by_cases hkl : k < nv.length
    · have hkz : (k : Int) < (nv.length : Int) := by omega
      obtain ⟨gN, cN, hv, hcn, hcm, _, _, _, hcell⟩ := HD.o.node hkl
      cases hv
      have hdw := HD.o.grow hb.o
      have hcw : ∀ j (u : Value), j < 7 → (nodeC nv[k])[j]? = some u → wr.cell? ⟨gN, k * 7 + j, none⟩ = some u := fun j u hj hu => by
        have := (hcell k hkl j hj).trans hu
        exact (hb.o.cell (cell_blk' this)).trans this
      obtain ⟨ka, kc, hks⟩ := row_shape (hdw.kr k hkl)
      obtain ⟨pa, pc, hps⟩ := row_shape (hdw.pr k hkl)
      have c0 := hcw 0 (.int .i64 (nv[k].n.kd : Int)) (by omega) rfl
      have c1 := hcw 1 (.int .i64 (nv[k].n.a : Int)) (by omega) rfl
      have c2 := hcw 2 (.int .i64 (nv[k].n.b : Int)) (by omega) rfl
      have c3 := hcw 3 (.int .i64 (nv[k].n.ka : Int)) (by omega) rfl
      have c4 := hcw 4 (.int .i64 (nv[k].n.kb : Int)) (by omega) rfl
      have c5 := hcw 5 nv[k].k (by omega) rfl
      have c6 := hcw 6 nv[k].p (by omega) rfl
      rw [hks] at c5
      rw [hps] at c6
      rw [Nat.add_zero] at c0
      have HIN := hq (inN_at (nv := nv) (z := z) hkl)
      have hpl := pathTo_len (nv.map NV.n) z k
      have HY := hq (@pathTo_yes (nv.map NV.n) z k)
      have HNO := hq (@pathTo_no (nv.map NV.n) z k)
      clear hcw hdw hks hps hcell
      generalize nv[k].n.kd = x0 at *
      generalize nv[k].n.a = x1 at *
      generalize nv[k].n.b = x2 at *
      generalize nv[k].n.ka = x3 at *
      generalize nv[k].n.kb = x4 at *
      generalize nv[k].n.kids.length = x5 at *
      generalize nv[k].n.pcs.length = x6 at *
      generalize inN (nv.map NV.n) z k = b at *
      have hb2 := below_alloc wr (.cells #[.int .i64 (x0 : Int), .int .i64 (x1 : Int), .int .i64 (x2 : Int), .int .i64 (x3 : Int), .int .i64 (x4 : Int), .slice ka x5 kc, .slice pa x6 pc] 41)
      have hw2 := Whole.made wr 41 #[.int .i64 (x0 : Int), .int .i64 (x1 : Int), .int .i64 (x2 : Int), .int .i64 (x3 : Int), .int .i64 (x4 : Int), .slice ka x5 kc, .slice pa x6 pc]
      have y1 := hw2.at_ 1
      have y2 := hw2.at_ 2
      have hr2 := hrow.o.alloc (.cells #[.int .i64 (x0 : Int), .int .i64 (x1 : Int), .int .i64 (x2 : Int), .int .i64 (x3 : Int), .int .i64 (x4 : Int), .slice ka x5 kc, .slice pa x6 pc] 41)
      have HB2 := hq (below_trans hb.o hb2)
      go_upto_region 5 with fail
      clear hw2 hb2 c0 c1 c2 c3 c4 c5 c6 hrow hb HBW
      generalize wr.alloc (.cells #[.int .i64 (x0 : Int), .int .i64 (x1 : Int), .int .i64 (x2 : Int), .int .i64 (x3 : Int), .int .i64 (x4 : Int), .slice ka x5 kc, .slice pa x6 pc] 41) = W2 at *
      have HR2 := hq hr2
      obtain ⟨va, vc, hvs⟩ := row_shape hr2
      clear hr2
      by_cases h1 : (x1 : Int) ≤ z
      · by_cases h2 : z < (x2 : Int)
        · have hb1 : b = true := by rw [HIN.o, decide_eq_true h1, decide_eq_true h2]; rfl
          have HY2 := hq (HY.o hb1)
          have hr3 := HR2.o
          have hww : W.heap.size ≤ W2.heap.size := HB2.o.size
          clear hb1 HIN HNO HY
          go_wp2_with (at_builtin; refine wpList_append_own_at _ rfl _ _ 34 rfl W.heap.size 3 i0 (.int .i64 0) 1 8 Tryd.underlying34 hi0 hz0 hz1 hz2 rfl (by decide) _ _ _ rfl (hr3.alloc _) ⟨W2.heap.size, 0, none⟩ 1 1 [.int .i64 (k : Int)] rfl rfl (cells_of_new _ [.int .i64 (k : Int)] _) (by simp [Value.oneCell']) (by unfold maxLen; omega) (by omega) (by rw [World.size_alloc]; omega) ?_)
          intro v' W3 hown3 hgrow3 _ _
          have HR3 : Hq (W3.ownsRow W.heap.size 3 1 v' (pathTo (nv.map NV.n) z (k + 1)).length (kidC (pathTo (nv.map NV.n) z (k + 1)))) := hq (by
            rw [HY2.o, List.length_append, List.length_singleton]
            unfold kidC at hown3 ⊢
            rw [List.map_append]
            exact hown3)
          have HB3 := hq ((below_trans HB2.o (below_alloc W2 (.cells #[.int .i64 (k : Int)] 3))).grown hgrow3 (by rw [World.size_alloc]; omega) (fun q e => (hr3.lt q (by rw [hvs]; exact e)).1))
          clear hown3 hgrow3 hr3 HR2
          go_wp2_with fail
          go_roundw
          case rel => exact ⟨k + 1, hkl, int_eq (by omega), HR3, HB3⟩
          case measure => simp [intOf]; omega
        · have hb1 : b = false := by rw [HIN.o, decide_eq_false h2, Bool.and_false]
          have HR3 : Hq (W2.ownsRow W.heap.size 3 1 u6 (pathTo (nv.map NV.n) z (k + 1)).length (kidC (pathTo (nv.map NV.n) z (k + 1)))) := hq (by rw [HNO.o hb1]; exact HR2.o)
          clear hb1 HIN HNO HY HR2 hvs
          go_wp2_with fail
          go_roundw
          case rel => exact ⟨k + 1, hkl, int_eq (by omega), HR3, HB2⟩
          case measure => simp [intOf]; omega
      · have hb1 : b = false := by rw [HIN.o, decide_eq_false h1, Bool.false_and]
        have HR3 : Hq (W2.ownsRow W.heap.size 3 1 u6 (pathTo (nv.map NV.n) z (k + 1)).length (kidC (pathTo (nv.map NV.n) z (k + 1)))) := hq (by rw [HNO.o hb1]; exact HR2.o)
        clear hb1 HIN HNO HY HR2 hvs
        go_wp2_with fail
        go_roundw
        case rel => exact ⟨k + 1, hkl, int_eq (by omega), HR3, HB2⟩
        case measure => simp [intOf]; omega
    · have hkz : ¬ (k : Int) < (nv.length : Int) := by omega
      obtain rfl : k = nv.length := by omega
      have HV := hq (HP2.o _ _ hrow.o hb.o)
      obtain ⟨va, vc, hvs⟩ := row_shape hrow.o
      subst hvs
      clear hrow hb HP2
      generalize (pathTo (nv.map NV.n) z nv.length).length = pl at *
      have hdz : decide ((0 : Int) < (pl : Int)) = decide (0 < pl) := by
        by_cases h : 0 < pl
        · rw [decide_eq_true h, decide_eq_true (by omega)]
        · rw [decide_eq_false h, decide_eq_false (by omega)]
      go_wp2_with fail
      first | exact HV.o | (rw [hdz]; exact HV.o) | (simp only [hdz]; exact HV.o)

set_option maxHeartbeats 4000000 in
set_option maxRecDepth 1000000 in
theorem rpath_any {B : Nat} {nv : List NV} {vN : Value} (s : ByteArray) (z : Int) {W : World} (hd : DocIn B nv vN W) :
    Calls Tryd.prog 15 #[.agg #[.string s, vN], .int .i64 z] W fun e W' => PathPost W.heap.size (pathTo (nv.map NV.n) z nv.length) e W' ∧ Below W.heap.size W W' := by
  have HD := hq hd
  obtain ⟨na, nc, hnv⟩ := row_shape hd.nd
  subst hnv
  have hn4 := hd.n4
  have HW0 := hq (Whole.made W 25 #[.string s, .slice na nv.length nc])
  have HBW := hq (below_alloc W (.cells #[.string s, .slice na nv.length nc] 25))
  have hsz : W.heap.size ≤ (W.alloc (.cells #[.string s, .slice na nv.length nc] 25)).heap.size := HBW.o.size
  clear hd
  have HPP : Hq (∀ v W', W'.ownsRow W.heap.size 3 1 v (pathTo (nv.map NV.n) z nv.length).length (kidC (pathTo (nv.map NV.n) z nv.length)) → Below W.heap.size W W' → PathPost W.heap.size (pathTo (nv.map NV.n) z nv.length) (.returned (.tuple #[v, .bool (decide (0 < (pathTo (nv.map NV.n) z nv.length).length))])) W' ∧ Below W.heap.size W W') := hq (fun v W' h1 h2 => ⟨⟨v, rfl, h1⟩, h2⟩)
  generalize hPP : (fun e W' => PathPost W.heap.size (pathTo (nv.map NV.n) z nv.length) e W' ∧ Below W.heap.size W W') = PP
  have HP2 : Hq (∀ v W', W'.ownsRow W.heap.size 3 1 v (pathTo (nv.map NV.n) z nv.length).length (kidC (pathTo (nv.map NV.n) z nv.length)) → Below W.heap.size W W' → PP (.returned (.tuple #[v, .bool (decide (0 < (pathTo (nv.map NV.n) z nv.length).length))])) W') := hq (by subst hPP; exact HPP.o)
  clear hPP HPP
  obtain ⟨i0, hi0, hz0, hz1, hz2⟩ := info_parts infoI
  go_enter Tryd.func15, Tryd.ntmps15
  go_wp2_with fail
  generalize W.alloc (.cells #[.string s, .slice na nv.length nc] 25) = W1 at *
  go_loopw [6, 7] (fun v i wr => ∃ k : Nat, k ≤ nv.length ∧ i = .int .i64 (k : Int) ∧ Hq (wr.ownsRow (W.heap.size + 1) 3 1 v (pathTo (nv.map NV.n) z k).length (kidC (pathTo (nv.map NV.n) z k))) ∧ Hq (Whole wr W.heap.size 25 #[.string s, .slice na nv.length nc]) ∧ Hq (Below W.heap.size W wr)) (fun _ i _ => nv.length - (intOf i).toNat)
  case atStart => exact ⟨0, Nat.zero_le _, rfl, hq (World.ownsRow_nil _ _ _ _), HW0, HBW⟩
  case round =>
    obtain ⟨k, hk, rfl, hrow, hwd, hb⟩ := hrel
    have cD := hwd.o.at_ 1
    by_cases hkl : k < nv.length
    · have hkz : (k : Int) < (nv.length : Int) := by omega
      obtain ⟨gN, cN, hv, hcn, hcm, _, _, _, hcell⟩ := HD.o.node hkl
      cases hv
      have hcw : ∀ j (u : Value), j < 7 → (nodeC nv[k])[j]? = some u → wr.cell? ⟨gN, k * 7 + j, none⟩ = some u := fun j u hj hu => by
        have := (hcell k hkl j hj).trans hu
        exact (hb.o.cell (cell_blk' this)).trans this
      have c1 := hcw 1 (.int .i64 (nv[k].n.a : Int)) (by omega) rfl
      have c2 := hcw 2 (.int .i64 (nv[k].n.b : Int)) (by omega) rfl
      have HIN := hq (inN_at (nv := nv) (z := z) hkl)
      have hpl := pathTo_len (nv.map NV.n) z k
      have HY := hq (@pathTo_yes (nv.map NV.n) z k)
      have HNO := hq (@pathTo_no (nv.map NV.n) z k)
      have HR2 := hrow
      clear hcw hcell hrow
      generalize nv[k].n.a = x1 at *
      generalize nv[k].n.b = x2 at *
      generalize inN (nv.map NV.n) z k = b at *
      obtain ⟨va, vc, hvs⟩ := row_shape HR2.o
      have HVS := hq hvs
      by_cases h1 : (x1 : Int) ≤ z
      · by_cases h2 : z < (x2 : Int)
        · have hb1 : b = true := by rw [HIN.o, decide_eq_true h1, decide_eq_true h2]; rfl
          have HY2 := hq (HY.o hb1)
          have hr3 := HR2.o
          have hww : W.heap.size + 1 ≤ wr.heap.size := hwd.o.lt
          clear hb1 HIN HNO HY
          go_wp2_with (at_builtin; refine wpList_append_own_at _ rfl _ _ 34 rfl (W.heap.size + 1) 3 i0 (.int .i64 0) 1 8 Tryd.underlying34 hi0 hz0 hz1 hz2 rfl (by decide) _ _ _ rfl (hr3.alloc _) ⟨wr.heap.size, 0, none⟩ 1 1 [.int .i64 (k : Int)] rfl rfl (cells_of_new _ [.int .i64 (k : Int)] _) (by simp [Value.oneCell']) (by unfold maxLen; omega) (by omega) (by rw [World.size_alloc]; omega) ?_)
          intro v' W3 hown3 hgrow3 _ _
          have HR3 : Hq (W3.ownsRow (W.heap.size + 1) 3 1 v' (pathTo (nv.map NV.n) z (k + 1)).length (kidC (pathTo (nv.map NV.n) z (k + 1)))) := hq (by
            rw [HY2.o, List.length_append, List.length_singleton]
            unfold kidC at hown3 ⊢
            rw [List.map_append]
            exact hown3)
          have hlt3 : ∀ q, (Value.slice va (pathTo (nv.map NV.n) z k).length vc).ownBlock = some q → W.heap.size + 1 ≤ q := fun q e => (hr3.lt q (by rw [HVS.o]; exact e)).1
          have HW3 := hq (whole_kept (hwd.o.alloc (.cells #[.int .i64 (k : Int)] 3)) hgrow3 (fun q e => by have := hlt3 q e; omega))
          have HB3 := hq (((hb.o.alloc hb.o.size (.cells #[.int .i64 (k : Int)] 3))).grown hgrow3 (by rw [World.size_alloc]; omega) (fun q e => by have := hlt3 q e; omega))
          clear hown3 hgrow3 hr3 HR2 hlt3
          go_wp2_with fail
          go_roundw
          case rel => exact ⟨k + 1, hkl, int_eq (by omega), HR3, HW3, HB3⟩
          case measure => simp [intOf]; omega
        · have hb1 : b = false := by rw [HIN.o, decide_eq_false h2, Bool.and_false]
          have HR3 : Hq (wr.ownsRow (W.heap.size + 1) 3 1 u6 (pathTo (nv.map NV.n) z (k + 1)).length (kidC (pathTo (nv.map NV.n) z (k + 1)))) := hq (by rw [HNO.o hb1]; exact HR2.o)
          clear hb1 HIN HNO HY HR2 hvs HVS
          go_wp2_with fail
          go_roundw
          case rel => exact ⟨k + 1, hkl, int_eq (by omega), HR3, hwd, hb⟩
          case measure => simp [intOf]; omega
      · have hb1 : b = false := by rw [HIN.o, decide_eq_false h1, Bool.false_and]
        have HR3 : Hq (wr.ownsRow (W.heap.size + 1) 3 1 u6 (pathTo (nv.map NV.n) z (k + 1)).length (kidC (pathTo (nv.map NV.n) z (k + 1)))) := hq (by rw [HNO.o hb1]; exact HR2.o)
        clear hb1 HIN HNO HY HR2 hvs HVS
        go_wp2_with fail
        go_roundw
        case rel => exact ⟨k + 1, hkl, int_eq (by omega), HR3, hwd, hb⟩
        case measure => simp [intOf]; omega
    · have hkz : ¬ (k : Int) < (nv.length : Int) := by omega
      obtain rfl : k = nv.length := by omega
      have HV := hq (HP2.o _ _ (row_base' hrow.o (Nat.le_succ _)) hb.o)
      obtain ⟨va, vc, hvs⟩ := row_shape hrow.o
      subst hvs
      clear hrow hb HP2
      generalize (pathTo (nv.map NV.n) z nv.length).length = pl at *
      have hdz : decide ((0 : Int) < (pl : Int)) = decide (0 < pl) := by
        by_cases h : 0 < pl
        · rw [decide_eq_true h, decide_eq_true (by omega)]
        · rw [decide_eq_false h, decide_eq_false (by omega)]
      go_wp2_with fail
      first | exact HV.o | (rw [hdz]; exact HV.o) | (simp only [hdz]; exact HV.o)
/-- the bytes of a span -/
def sliceM (s : ByteArray) (a b : Int) : ByteArray := (textT s a b).1
set_option maxHeartbeats 1000000 in
set_option maxRecDepth 1000000 in
theorem jslice_any (s : ByteArray) (vN : Value) (hvs : ∃ o n c, vN = .slice o n c) (a b : Int) (W : World) (hs : s.size ≤ maxLen) (ha : -9223372036854775808 ≤ a ∧ a ≤ 9223372036854775807) (hb : -9223372036854775808 ≤ b ∧ b ≤ 9223372036854775807) :
    Calls Tryd.prog 16 #[.agg #[.string s, vN], .agg #[.int .i64 a, .int .i64 b]] W fun e W' => e = .returned (.string (sliceM s a b)) ∧ Below W.heap.size W W' := by
  obtain ⟨o, n, c, rfl⟩ := hvs
  have hb1 := below_alloc W (.cells #[.string s, .slice o n c] 25)
  have hb2 := below_alloc (W.alloc (.cells #[.string s, .slice o n c] 25)) (.cells #[.int .i64 a, .int .i64 b] 33)
  have HC := hq (text4_any s 0 a b ((W.alloc (.cells #[.string s, .slice o n c] 25)).alloc (.cells #[.int .i64 a, .int .i64 b] 33)) hs ha hb)
  unfold TextPost at HC
  have HM : Hq (sliceM s a b = (textT s a b).1) := hq rfl
  generalize textT s a b = T at *
  obtain ⟨t1, t2⟩ := T
  generalize sliceM s a b = SM at *
  have HBB := hq (below_trans hb1 hb2)
  simp only at HC HM
  clear hb1 hb2
  go_enter Tryd.func16, Tryd.ntmps16
  go_wp2_with fail
  refine HC.o.mono ?_
  rintro e W2 ⟨rfl, hb3⟩
  have HB3 := hq (below_trans HBB.o hb3)
  clear hb3 HC
  go_wp2_with fail
  go_ret
  exact ⟨by rw [HM.o]; rfl, HB3.o⟩
end Go.Proofs.YtleabaldjlbnlaaDoor

namespace Go.Proofs.YtleabaldjlbnlaaDoor
open Go.RowKit

set_option maxHeartbeats 1000000 in
set_option maxRecDepth 1000000 in
theorem rslice_any (s : ByteArray) (vN : Value) (hvs : ∃ o n c, vN = .slice o n c) (a b : Int) (W : World) (_hs : s.size ≤ maxLen) :
    Calls Tryd.prog 17 #[.agg #[.string s, vN], .agg #[.int .i64 a, .int .i64 b]] W fun e W' => e = .returned (.string (sliceM s a b)) ∧ Below W.heap.size W W' := by
  obtain ⟨o, n, c, rfl⟩ := hvs
  have hb1 := below_alloc W (.cells #[.string s, .slice o n c] 25)
  have hb2 := below_alloc (W.alloc (.cells #[.string s, .slice o n c] 25)) (.cells #[.int .i64 a, .int .i64 b] 33)
  have HBB := hq (below_trans hb1 hb2)
  have w1 := ((Whole.made W 25 #[.string s, .slice o n c]).alloc (.cells #[.int .i64 a, .int .i64 b] 33))
  have w2 := Whole.made (W.alloc (.cells #[.string s, .slice o n c] 25)) 33 #[.int .i64 a, .int .i64 b]
  rw [World.size_alloc] at w2
  have c0 := w1.at_ 0
  have d0 := w2.at_ 0
  have d1 := w2.at_ 1
  have HM : Hq (sliceM s a b = (textT s a b).1) := hq rfl
  have HT : Hq (textT s a b = if a < 0 ∨ b < a ∨ (s.size : Int) < b then (⟨#[]⟩, false) else (s.extract a.toNat b.toNat, true)) := hq rfl
  clear hb1 hb2 w1 w2
  generalize sliceM s a b = SM at *
  generalize textT s a b = T at *
  go_enter Tryd.func17, Tryd.ntmps17
  by_cases h1 : a < 0
  · have HS : Hq (SM = ⟨#[]⟩) := hq (by rw [HM.o, HT.o, if_pos (.inl h1)])
    go_wp2_with fail
    go_ret
    exact ⟨by rw [HS.o]; rfl, HBB.o⟩
  · by_cases h2 : b < a
    · have HS : Hq (SM = ⟨#[]⟩) := hq (by rw [HM.o, HT.o, if_pos (.inr (.inl h2))])
      go_wp2_with fail
      go_ret
      exact ⟨by rw [HS.o]; rfl, HBB.o⟩
    · by_cases h3 : (s.size : Int) < b
      · have HS : Hq (SM = ⟨#[]⟩) := hq (by rw [HM.o, HT.o, if_pos (.inr (.inr h3))])
        go_wp2_with fail
        go_ret
        exact ⟨by rw [HS.o]; rfl, HBB.o⟩
      · have HS : Hq (SM = s.extract a.toNat b.toNat) := hq (by rw [HM.o, HT.o, if_neg (by omega)])
        have h4 : 0 ≤ a := by omega
        have h5 : a ≤ b := by omega
        have h6 : b ≤ (s.size : Int) := by omega
        go_wp2_with fail
        go_ret
        exact ⟨by rw [HS.o]; rfl, HBB.o⟩
theorem below_drawn'' {B : Nat} {a w : World} (h : Below B a w) (n : Nat) : Below B a (w.drewN n) := ⟨h.os, h.tape, h.output, h.size, h.block⟩
theorem ints_cell {W : World} {B : Nat} {v : Value} {l : List Nat} (h : W.ownsRow B 3 1 v l.length (kidC l)) {k : Nat} (hk : k < l.length) : ∃ g c, v = .slice (some ⟨g, 0, none⟩) l.length c ∧ W.cell? ⟨g, k, none⟩ = some (.int .i64 (l[k] : Int)) := by
  obtain ⟨n, hn⟩ : ∃ n, l.length = n + 1 := ⟨l.length - 1, by omega⟩
  rw [hn] at h
  obtain ⟨g, c, hv, _, _, hc⟩ := row_cells1 h
  exact ⟨g, c, by rw [hv, hn], hc k _ (by unfold kidC; simp [hk])⟩
set_option maxHeartbeats 4000000 in
set_option maxRecDepth 1000000 in
theorem jpaths_any (s : ByteArray) (z a b : Int) (W : World) (hT : tabs W) (hs : s.size ≤ maxLen) (ha : -9223372036854775808 ≤ a ∧ a ≤ 9223372036854775807) (hb : -9223372036854775808 ≤ b ∧ b ≤ 9223372036854775807) :
    Calls Tryd.prog 4 #[.string s, .int .i64 z, .agg #[.int .i64 a, .int .i64 b]] W fun e W' => e = .returned (.bool true) ∧ Below W.heap.size W W' := by
  have hb0 := below_alloc W (.cells #[.int .i64 a, .int .i64 b] 33)
  have HS := hq (jsmall_any _ (tabs_grow hT hb0))
  have HW0 := hq (Whole.made W 33 #[.int .i64 a, .int .i64 b])
  have HPA := hq (fun WW (hb : Below W.heap.size W WW) => jparse_any s WW (tabs_grow hT hb) hs)
  unfold JParsePost at HPA
  have HB0 := hq hb0
  have HJA := hq (fun vN hvs WW => jslice_any s vN hvs a b WW hs ha hb)
  have HJB := hq (fun vN hvs WW => rslice_any s vN hvs a b WW hs)
  clear hb0 hT
  unfold maxLen at hs
  go_enter Tryd.func4, Tryd.ntmps4
  go_wp2_with fail
  refine HS.o.mono ?_
  rintro e W1 ⟨rfl, hb1⟩
  have HB1 := hq (below_trans HB0.o hb1)
  have HW1 := hq (HW0.o.grow hb1)
  clear hb1 HS HW0 HB0
  by_cases hbig : 4096 < s.size
  · have hz1 : (4096 : Int) < (s.size : Int) := by omega
    clear HPA HJA HJB
    go_wp2_with fail
    go_ret
    exact ⟨rfl, HB1.o⟩
  · have hz1 : ¬ (4096 : Int) < (s.size : Int) := by omega
    have HP := hq (HPA.o W1 HB1.o)
    cases hpm : jparseM s with
    | inl e =>
      obtain ⟨wh, er⟩ := e
      rw [hpm] at HP
      simp only at HP
      have her := jparseM_er hpm
      have herb : (er != 0) = true := bne_iff_ne.2 her
      clear hpm HPA HJA HJB her
      go_wp2_with fail
      refine HP.o.mono ?_
      rintro e W2 ⟨rfl, hb2⟩
      have HB2 := hq (below_trans (below_trans HB1.o hb2) (below_alloc W2 (.cells #[.string ⟨#[]⟩, .slice none 0 0] 25)))
      clear hb2 HP
      go_wp2_with fail
      go_ret
      exact ⟨rfl, HB2.o⟩
    | inr ns =>
      rw [hpm] at HP
      simp only at HP
      clear hpm HPA
      go_wp2_with fail
      refine HP.o.mono ?_
      rintro e W2 ⟨nv, vN, rfl, hd, hn, hb2⟩
      obtain ⟨na, nc, hnv⟩ := row_shape hd.nd
      subst hnv
      have hb3 := below_alloc W2 (.cells #[.string s, .slice na nv.length nc] 25)
      have HD3 := hq (hd.grow hb3)
      have HW3 := hq (Whole.made W2 25 #[.string s, .slice na nv.length nc])
      have HX3 := hq ((HW1.o.grow hb2).grow hb3)
      have HB3 := hq (below_trans (below_trans HB1.o hb2) hb3)
      go_upto_region 5 with fail
      generalize W2.heap.size = bD at *
      generalize W2.alloc (.cells #[.string s, .slice na nv.length nc] 25) = W3 at *
      clear hb2 hb3 hd HP HW1 HB1 hn
      have d0 := HW3.o.at_ 0
      have d1 := HW3.o.at_ 1
      have HP1 := hq (jpath_any s z HD3.o)
      unfold PathPost at HP1
      go_wp2_with fail
      refine HP1.o.mono ?_
      rintro e W4 ⟨⟨v1, rfl, hr1⟩, hb4⟩
      have HD4 := hq (HD3.o.grow hb4)
      have HW4 := hq (HW3.o.grow hb4)
      have HX4 := hq (HX3.o.grow hb4)
      have HB4 := hq (below_trans HB3.o hb4)
      have HR1 := hq hr1
      obtain ⟨va, vc, hv1⟩ := row_shape hr1
      clear hr1 hb4 HP1 HD3 HW3 HX3 HB3 d0 d1
      subst hv1
      have d0 := HW4.o.at_ 0
      have d1 := HW4.o.at_ 1
      have HP2 := hq (rpath_any s z HD4.o)
      unfold PathPost at HP2
      go_wp2_with fail
      refine HP2.o.mono ?_
      rintro e W5 ⟨⟨v2, rfl, hr2⟩, hb5⟩
      have HW5 := hq (HW4.o.grow hb5)
      have HX5 := hq (HX4.o.grow hb5)
      have HB5 := hq (below_trans HB4.o hb5)
      have HR2 := hq hr2
      have hg5 : W4.grownBy W5 none := ⟨hb5.os, hb5.tape, hb5.output, hb5.size, fun j hj _ => hb5.block j hj⟩
      have HR15 := hq (row_kept HR1.o hg5 (fun b e => by cases e))
      obtain ⟨wa, wc, hv2⟩ := row_shape hr2
      clear hr2 hb5 HP2 HD4 HW4 HX4 HB4 d0 d1 HR1 hg5
      subst hv2
      generalize hpl : pathTo (nv.map NV.n) z nv.length = pl at *
      clear hpl
      have hll : (((pl.length : Nat) : Int) != ((pl.length : Nat) : Int)) = false := bne_self_eq_false _
      have hpz : pl.length ≤ 9223372036854775807 := by
        have := HR2.o
        rcases this.2 with ⟨_, h0⟩ | ⟨_, _, _, _, _, _, h1, h2, _⟩
        · omega
        · unfold maxLen at h2; omega
      go_wp2_with fail
      go_loopw [15] (fun i wr => ∃ k : Nat, k ≤ pl.length ∧ i = .int .i64 (k : Int) ∧ Hq (Below W5.heap.size W5 wr)) (fun i _ => pl.length - (intOf i).toNat)
      case atStart => exact ⟨0, Nat.zero_le _, rfl, hq (Below.refl _ _)⟩
      case round =>
        obtain ⟨k, hk, rfl, hbw⟩ := hrel
        by_cases hkl : k < pl.length
        · have hkz : (k : Int) < (pl.length : Int) := by omega
          obtain ⟨g1, c1, e1, q1⟩ := ints_cell HR15.o hkl
          obtain ⟨g2, c2, e2, q2⟩ := ints_cell HR2.o hkl
          cases e1
          cases e2
          replace q1 := (hbw.o.cell (cell_blk' q1)).trans q1
          replace q2 := (hbw.o.cell (cell_blk' q2)).trans q2
          generalize pl[k] = x at *
          have hxx : ((x : Int) != (x : Int)) = false := bne_self_eq_false _
          go_wp2_with fail
          go_quiet (fail)
          go_wp2_with fail
          go_roundw
          case rel => exact ⟨k + 1, hkl, int_eq (by omega), hq (below_drawn'' hbw.o _)⟩
          case measure => simp [intOf]; omega
        · have hkz : ¬ (k : Int) < (pl.length : Int) := by omega
          have HW6 := hq (HW5.o.grow hbw.o)
          have HX6 := hq (HX5.o.grow hbw.o)
          have HB6 := hq (below_trans HB5.o hbw.o)
          have d0 := HW6.o.at_ 0
          have d1 := HW6.o.at_ 1
          have x0 := HX6.o.at_ 0
          have x1 := HX6.o.at_ 1
          generalize decide (0 < pl.length) = bb at *
          have hbb : (bb == bb) = true := by cases bb <;> rfl
          clear HR15 HR2 HW5 HX5 HB5 HW6 HX6
          generalize sliceM s a b = SM at *
          go_upto_region 16 with fail
          have hcl := And.intro (Below.refl wr.heap.size wr).drew (And.intro d0 (And.intro d1 (And.intro x0 x1)))
          go_region_held3 (fun V => Below wr.heap.size wr V ∧ V.cell? ⟨bD, 0, none⟩ = some (.string s) ∧ V.cell? ⟨bD, 1, none⟩ = some (.slice na nv.length nc) ∧ V.cell? ⟨W.heap.size, 0, none⟩ = some (.int .i64 a) ∧ V.cell? ⟨W.heap.size, 1, none⟩ = some (.int .i64 b))
            (first | exact ⟨(Below.refl _ _).drew, d0, d1, x0, x1⟩ | exact hT2)
            (first
              | (go_at_call 16; refine (HJA.o _ ⟨_, _, _, rfl⟩ _).mono ?_; rintro e' w9 ⟨rfl, hb9⟩; have hT2 : Below wr.heap.size wr w9 ∧ w9.cell? ⟨bD, 0, none⟩ = some (.string s) ∧ w9.cell? ⟨bD, 1, none⟩ = some (.slice na nv.length nc) ∧ w9.cell? ⟨W.heap.size, 0, none⟩ = some (.int .i64 a) ∧ w9.cell? ⟨W.heap.size, 1, none⟩ = some (.int .i64 b) := read_four (by assumption) hb9)
              | (go_at_call 17; refine (HJB.o _ ⟨_, _, _, rfl⟩ _).mono ?_; rintro e' w9 ⟨rfl, hb9⟩; have hT2 : Below wr.heap.size wr w9 ∧ w9.cell? ⟨bD, 0, none⟩ = some (.string s) ∧ w9.cell? ⟨bD, 1, none⟩ = some (.slice na nv.length nc) ∧ w9.cell? ⟨W.heap.size, 0, none⟩ = some (.int .i64 a) ∧ w9.cell? ⟨W.heap.size, 1, none⟩ = some (.int .i64 b) := read_four (by assumption) hb9))
          have HB9 := hq (below_trans HB6.o hT2.1)
          clear hT2 hcl d0 d1 x0 x1 HJA HJB HB6
          go_wp2_with fail
          go_ret
          exact ⟨rfl, HB9.o⟩
end Go.Proofs.YtleabaldjlbnlaaDoor
