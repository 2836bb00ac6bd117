/-
  WALKS: slices.Values of a row of texts; slices.AppendSeq, Collect, Sorted over it.
-/
import Derived.RangeFuncNested
import Derived.RangeFuncBound
import Derived.RangeFuncCalls
import Derived.RangeFuncLeaves
import Derived.RangeFuncWrites
import Derived.Shelf.Abstract
import Derived.Shelf.RegionOpen
import Derived.OwnWalkIn
import Derived.TacticsInMore
import Derived.LoopNIn
import Derived.LoopIn
import Derived.Maps.AppendAt
import Derived.Test.YtccdmoogjcgcfaaOrN
import Derived.Test.YtccdmoogjcgcfaaRowMem
import Derived.Sort.OwnSorted
import Derived.Test.YtccdmoogjcgcfaaShelf
namespace Go.Proofs.Ytccdmoogjcgcfaa
open Go.RowKit Go.Shelf Go.Sort
attribute [local go_sem] Oper.semAt_some

set_option maxRecDepth 100000 in
set_option maxHeartbeats 2000000 in
theorem vals1_in (l Bn n₀ : Nat) (o : Option Addr) (cap : Nat) (xs : List Bs) (hl : xs.length ≤ cap) (hcp : cap ≤ maxLen) (J Jx : List Bs → World → Prop)
    (hY : ∀ pre x W, J pre W → pre.length < xs.length → YieldAt Fence.wide 8 Try.prog l #[.string (st x)] W fun e W' =>
      (e = .returned (.bool true) ∧ J (pre ++ [x]) W' ∧ Below n₀ W W') ∨ (e = .returned (.bool false) ∧ Jx (pre ++ [x]) W'))
    (W : World) (hBn : W.cell? ⟨Bn, 0, none⟩ = some (.slice o xs.length cap)) (hin : ∀ A, Below n₀ W A → StrsIn A o xs) (h0 : J [] W) :
    CallsIn Fence.wide 9 Try.prog 32 #[.func (.yield l) #[] #[], .pointer (some ⟨Bn, 0, none⟩)] W fun e W' => (∃ v, e = .returned v) ∧
      ((∃ ys, ys = xs ∧ J ys W') ∨ (∃ pre, pre <+: xs ∧ Jx pre W')) := by
  refine callsIn_of_wp Try.func32 rfl trivial ?_ rfl
  simp only [Try.ntmps32, List.size_toArray, List.length_cons, List.length_nil, Nat.reduceAdd, Nat.reduceSub, Array.replicate_succ, Array.replicate_zero, List.push_toArray, List.append_toArray, List.nil_append, List.cons_append]
  unfold maxLen at hcp
  have HIN := hq hin
  have HY := hq hY
  clear hin hY
  gi_wp2
  gi_loopw [7] (fun i wr => ∃ k : Nat, k ≤ xs.length ∧ i = .int .i64 (k : Int) ∧ J (xs.take k) wr ∧ Below n₀ W wr) (fun i _ => xs.length - (intOf i).toNat)
  case atStart => exact ⟨0, Nat.zero_le _, rfl, h0, Below.refl _ _⟩
  case round =>
    obtain ⟨k, hk, rfl, hj, hb⟩ := hrel
    clear h0
    by_cases hlt : k < xs.length
    · have hkz : (k : Int) < (xs.length : Int) := by omega
      obtain ⟨b, f, rfl, hcell⟩ := HIN.o wr hb k hlt
      have HT : Hq (xs.take (k + 1) = xs.take k ++ [xs[k]]) := hq (by rw [List.take_succ_eq_append_getElem hlt])
      have HL : Hq ((xs.take k).length < xs.length) := hq (by rw [List.length_take]; omega)
      generalize hx : xs[k] = x at *
      clear hx
      obtain ⟨fn, tmps, assign, body, hy, hR⟩ := HY.o (xs.take k) x wr hj HL.o
      gi_wp2
      refine hR.mono ?_
      rintro e W3 (⟨rfl, hJ3, hk3⟩ | ⟨rfl, hJx3⟩)
      · gi_wp2
        go_roundw
        case rel => exact ⟨k + 1, hlt, by simp, by rw [HT.o]; exact hJ3, hb.trans hk3⟩
        case measure => simp [intOf]; omega
      · gi_wp2
        refine bodyPost_ret (results_none rfl _ _ _) rfl ?_
        exact ⟨⟨_, rfl⟩, .inr ⟨_, by rw [← HT.o]; exact List.take_prefix _ _, hJx3⟩⟩
    · obtain rfl : k = xs.length := by omega
      have hkz : ¬ (xs.length : Int) < (xs.length : Int) := by omega
      gi_wp2
      go_end0
      refine ⟨⟨_, rfl⟩, .inl ?_⟩
      simpa using hj

set_option maxHeartbeats 400000 in
theorem vals_any (o : Option Addr) (n cap : Nat) (w : World) : Calls Try.prog 23 #[.slice o n cap] w fun e w' => e = .returned (.func (.func 32) #[] #[.pointer (some ⟨w.heap.size, 0, none⟩)]) ∧ w' = w.alloc (.cells #[.slice o n cap] 22) := by
  have hmf : ∀ fn first cap w, (Instr.makeFunc fn first cap).run Try.prog w = .ok (.func fn first cap) w := fun _ _ _ _ => rfl
  go_enter Try.func23, Try.ntmps23
  go_wp2_with fail
  go_ret
  exact ⟨rfl, rfl⟩

theorem vals_stops (Bn n₀ : Nat) (o : Option Addr) (cap : Nat) (xs : List Bs) (hl : xs.length ≤ cap) (hcp : cap ≤ maxLen) (w : World) (hBn : w.cell? ⟨Bn, 0, none⟩ = some (.slice o xs.length cap)) (hBl : Bn < w.heap.size) (hin : ∀ A, Below n₀ w A → StrsIn A o xs) (hn₀ : n₀ ≤ w.heap.size) :
    SeqStopsK Fence.wide 9 Try.prog 32 #[.pointer (some ⟨Bn, 0, none⟩)] (fun x : Bs => #[.string (st x)]) (Below n₀) (fun ys => ys = xs) (fun pre => pre <+: xs) xs.length w := fun l J Jx W hW _ _ hY h0 =>
  vals1_in l Bn n₀ o cap xs hl hcp J Jx hY W ((hW.cell (p := ⟨Bn, 0, none⟩) hBl).trans hBn) (fun A hA => hin A ((hW.mono hn₀).trans hA)) h0
theorem infoStr : (Try.prog.info? 9).map (fun i => (i.zero, i.size, i.bytes)) = some (some (.string ⟨#[]⟩), 1, 16) := by kernel_rfl
def strCells (l : List Bs) : List Value := l.map fun x => .string (st x)

set_option maxRecDepth 100000 in
set_option maxHeartbeats 4000000 in
theorem appendSeq_any (Bn : Nat) (o : Option Addr) (cap : Nat) (xs : List Bs) (hl : xs.length ≤ cap) (hcp : cap ≤ maxLen) (hxs : xs.length ≤ 1024) (w : World) (hBn : w.cell? ⟨Bn, 0, none⟩ = some (.slice o xs.length cap)) (hBl : Bn < w.heap.size) (hin : StrsIn w o xs) :
    Calls Try.prog 34 #[.slice none 0 0, .func (.func 32) #[] #[.pointer (some ⟨Bn, 0, none⟩)]] w fun e w' => ∃ v, e = .returned v ∧ w'.ownsRow w.heap.size 9 1 v xs.length (strCells xs) ∧ Below w.heap.size w w' := by
  obtain ⟨i0, hi, hz0, hz1, hz2⟩ := info_parts infoStr
  have HIN := hq hin
  clear hin
  refine (callsIn_wide (n := 10)).1 ?_
  refine callsIn_of_wp_marks Try.func34 rfl trivial ?_ rfl
  simp only [Try.ntmps34, List.size_toArray, List.length_cons, List.length_nil, Nat.reduceAdd, Nat.reduceSub, Array.replicate_succ, Array.replicate_zero, List.push_toArray, List.append_toArray, List.nil_append, List.cons_append]
  gi_wp2
  have bS := Boxed.new w 22 (.slice none 0 0)
  have hB0 := below_alloc w (.cells #[.slice none 0 0] 22)
  have hsz : (w.alloc (.cells #[.slice none 0 0] 22)).heap.size = w.heap.size + 1 := by simp
  have hBn0 := (hB0.cell (p := ⟨Bn, 0, none⟩) hBl).trans hBn
  obtain ⟨W0, hW0⟩ : ∃ W0, w.alloc (.cells #[.slice none 0 0] 22) = W0 := ⟨_, rfl⟩
  rw [hW0] at bS hB0 hsz hBn0 ⊢
  clear hW0
  refine wpIn_rangeFunc_ownG rfl (by omega) (gf := 32) (lb := #[.pointer (some ⟨Bn, 0, none⟩)]) rfl trivial (enters_of Try.func32 (by kernel_rfl) rfl)
    (vals_stops Bn w.heap.size o cap xs hl hcp W0 hBn0 (by omega) (fun A hA => HIN.o.grow (hB0.trans hA)) (by omega))
    belowK_t (belowK_b (by omega)) (Below.refl _ _) (fun _ => rfl)
    (fun pre W => (∃ v, Boxed W w.heap.size 22 v ∧ W.ownsRow w.heap.size 9 1 v pre.length (strCells pre) ∧ True) ∧ Below w.heap.size w W)
    (fun _ _ _ => False)
    (OwnFrom.and (Own.from (holdsRow_own (β := List Bs) w.heap.size w.heap.size 22 9 1 (fun pre => pre.length) (fun pre => strCells pre) (fun _ _ => True)) _) (ownFrom_below (Nat.le_refl _) (by omega)))
    (fun _ _ _ _ _ hs _ _ => hs)
    ⟨⟨_, bS, World.ownsRow_nil _ _ _ _, trivial⟩, hB0⟩
    (fun x => { tmps := #[.slice none 0 0, .func (.func 32) #[] #[.pointer (some ⟨Bn, 0, none⟩)], .pointer (some ⟨w.heap.size, 0, none⟩), undef, .slice none 0 0, .string (st x), .func (.func 32) #[] #[.pointer (some ⟨Bn, 0, none⟩)], .string (st x), undef, undef, undef, undef, undef], defers := [] }) ?assign ?body ?done ?stop
  case assign =>
    intro l x W K hK
    gi_wp2
    exact hK
  case body =>
    rintro l pre x W ⟨⟨v, hv, hrow, _⟩, hB⟩ hlt
    have hWs : w.heap.size ≤ W.heap.size := hB.size
    have hcv := hv.cell
    have hpl : pre.length ≤ 1024 := by omega
    gi_wp2_with (gi_at_builtin; refine wpListIn_append_own _ rfl _ _ 22 rfl w.heap.size 9 i0 (.string ⟨#[]⟩) 1 16 Try.underlying22 hi hz0 hz1 hz2 rfl (by decide) _ _ _ rfl (hrow.alloc _) ⟨W.heap.size, 0, none⟩ 1 1 [.string (st x)] rfl rfl (cells_of_new _ [.string (st x)] _) (by simp [Value.oneCell']) (by unfold maxLen; omega) (by omega) (by rw [World.size_alloc]; omega) ?_; intro v' w1 hown' hgrow _; obtain ⟨g', cap', rfl⟩ := ownsRow_succ hown'; obtain ⟨hv1, hv2, hr2, hk2, hb2⟩ := hv.appended (by decide) hrow hWs (Nat.le_refl _) hown' hgrow; have hc1 := hv1.cell; have hf1 := hv1.frozen)
    refine ⟨hk2.from _, hb2, ⟨_, hv2, ?_, trivial⟩, hB.trans hb2⟩
    rw [show (pre ++ [x]).length = pre.length + 1 by simp, show strCells (pre ++ [x]) = strCells pre ++ [.string (st x)] by simp [strCells]]
    exact hr2
  case done =>
    rintro D ys W hD rfl ⟨⟨v, hv, hrow, _⟩, hB⟩ hK
    have hcv := hv.cell
    gi_wp2
    refine ⟨by simp, .inl ⟨_, _, rfl, run_takeDeferred hK, ?_⟩⟩
    exact ⟨_, results_tmp rfl _ _ _, v, rfl, ownsRow_putObj hrow (.deferred none) hK rfl, hB.trans (belowK_b (w := w) (Nat.le_refl _) W D _ _ (by omega) hK rfl rfl)⟩
  case stop =>
    rintro D c pre W _ _ h _
    exact h.elim

set_option maxHeartbeats 1000000 in
theorem collect_any (Bn : Nat) (o : Option Addr) (cap : Nat) (xs : List Bs) (hl : xs.length ≤ cap) (hcp : cap ≤ maxLen) (hxs : xs.length ≤ 1024) (w : World) (hBn : w.cell? ⟨Bn, 0, none⟩ = some (.slice o xs.length cap)) (hBl : Bn < w.heap.size) (hin : StrsIn w o xs) :
    Calls Try.prog 30 #[.func (.func 32) #[] #[.pointer (some ⟨Bn, 0, none⟩)]] w fun e w' => ∃ v, e = .returned v ∧ w'.ownsRow w.heap.size 9 1 v xs.length (strCells xs) ∧ Below w.heap.size w w' := by
  have HC := hq (appendSeq_any Bn o cap xs hl hcp hxs w hBn hBl hin)
  clear hl hcp hBn hBl hin hxs
  go_enter Try.func30, Try.ntmps30
  go_wp2_with fail
  refine HC.o.mono ?_
  rintro e w1 ⟨v, rfl, h1, h2⟩
  go_wp2_with fail
  go_ret
  exact ⟨v, rfl, h1, h2⟩

/-- names in their order -/
def sortL (xs : List Bs) : List Bs := xs.mergeSort fun x y => decide (x ≤ y)
theorem strCells_enc (l : List Bs) : strCells l = l.map encStr := rfl
theorem sortL_len (xs : List Bs) : (sortL xs).length = xs.length := List.length_mergeSort ..
set_option maxHeartbeats 1000000 in
theorem sorted_any (Bn : Nat) (o : Option Addr) (cap : Nat) (xs : List Bs) (hl : xs.length ≤ cap) (hcp : cap ≤ maxLen) (hxs : xs.length ≤ 1024) (w : World) (hBn : w.cell? ⟨Bn, 0, none⟩ = some (.slice o xs.length cap)) (hBl : Bn < w.heap.size) (hin : StrsIn w o xs) :
    Calls Try.prog 22 #[.func (.func 32) #[] #[.pointer (some ⟨Bn, 0, none⟩)]] w fun e w' => ∃ v, e = .returned v ∧ w'.ownsRow w.heap.size 9 1 v xs.length (strCells (sortL xs)) ∧ Below w.heap.size w w' := by
  have HC := hq (collect_any Bn o cap xs hl hcp hxs w hBn hBl hin)
  clear hl hcp hBn hBl hin
  go_enter Try.func22, Try.ntmps22
  go_wp2_with fail
  refine HC.o.mono ?_
  rintro e w1 ⟨v, rfl, hrow, hb⟩
  clear HC
  rcases hrow.2 with ⟨rfl, hz⟩ | ⟨gb, cap', cur, rfl, hbase, hgb, r1, r2, r3, r4⟩
  · have hss : xs = [] := List.eq_nil_of_length_eq_zero hz
    subst hss
    have hrow2 : w1.ownsRow w.heap.size 9 1 (.slice none 0 0) 0 (strCells (sortL [])) := by
      rw [show sortL [] = [] by simp [sortL]]; exact hrow
    clear hrow
    go_wp2_with fail
    refine (Try.slices_Sort_string_none none 0 w1).mono ?_
    rintro e w2 ⟨rfl, h2⟩
    rw [h2]
    clear h2
    go_wp2_with fail
    go_ret
    exact ⟨.slice none 0 0, rfl, hrow2, hb⟩
  · have hH : Holds encStr w1 gb 0 xs.toArray := holds_of_block hgb (by rw [Nat.mul_one] at r4; exact r4)
    have hgl : gb < w1.heap.size := (Array.getElem?_eq_some_iff.1 hgb).1
    have HS := hq (Try.slices_Sort_string gb 0 cap' xs w1 hH hgl (by omega))
    have HF := hq (fun (nn : Nat) (os : Array Obj) => (⟨ownsRow_sorted (n := nn) (os := os) (ts := sortL xs) (sortL_len xs) hbase hgb r1 r2 r3, hb.grown (grownBy_sorted (n := nn) (os := os) (sortL xs).toArray) hb.size (fun j hj => by cases hj; exact hbase)⟩ : _ ∧ _))
    clear hH hrow hb hgb r4 hgl
    go_wp2_with fail
    refine HS.o.mono ?_
    rintro e w2 ⟨rfl, nn, os, h2⟩
    have h3 := HF.o nn os
    unfold sortL at h3
    rw [← h2] at h3
    clear h2 HF HS
    go_wp2_with fail
    go_ret
    exact ⟨_, rfl, h3.1, h3.2⟩
end Go.Proofs.Ytccdmoogjcgcfaa
