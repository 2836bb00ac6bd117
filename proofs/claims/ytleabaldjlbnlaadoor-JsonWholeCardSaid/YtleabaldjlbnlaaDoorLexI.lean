/-
  WALKS: lex.All, and the iterator that it hands back.
-/
import Derived.RangeFuncNested
import Derived.RangeFuncBound
import Derived.RangeFuncCalls
import Derived.RangeFuncLeaves
import Derived.Shelf.Abstract
import Derived.Shelf.RegionOpen
import Derived.OwnWalkIn
import Derived.TacticsInMore
import Derived.LoopNIn
import Derived.LoopIn
import Derived.Maps.AppendAt
import Derived.Test.YtleabaldjlbnlaaDoorLexV
import Derived.Test.YtleabaldjlbnlaaDoorLexO
namespace Go.Proofs.YtleabaldjlbnlaaDoor
open Go.RowKit Go.Shelf
attribute [local go_sem] Oper.semAt_some

/-- what a round is handed: a token's kind, its span, an error -/
abbrev Item := Nat × Nat × Nat × Int
abbrev tokV (k a b : Nat) : Value := .agg #[.int .i64 (k : Int), .int .i64 (a : Int), .int .i64 (b : Int)]
abbrev itemV (x : Item) : Array Value := #[tokV x.1 x.2.1 x.2.2.1, .int .i64 x.2.2.2]
def itemsL (s : ByteArray) : Nat → Nat → List Item
  | 0, _ => []
  | f + 1, p =>
    if p < s.size then
      (if (oneM s p).2.2 ≠ 0 then [(0, (oneM s p).2.1, (oneM s p).2.1, (oneM s p).2.2)] else ((oneM s p).1, p, (oneM s p).2.1, 0) :: itemsL s f (oneM s p).2.1)
    else []
def items (s : ByteArray) : List Item := if 65536 < s.size then [(0, 0, 0, 3)] else itemsL s s.size 0
theorem itemsL_end {s : ByteArray} {f p : Nat} (h : ¬ p < s.size) : itemsL s f p = [] := by
  cases f with
  | zero => rfl
  | succ f => rw [itemsL, if_neg h]

/-- what a round keeps: what lay below n₀, and the iterator's box -/
def KpB (n₀ Bn : Nat) (A B : World) : Prop := Below n₀ A B ∧ B.heap[Bn]? = A.heap[Bn]?
set_option maxRecDepth 100000 in
set_option maxHeartbeats 2000000 in
theorem all4_one (l Bn n₀ : Nat) (s : ByteArray) (hsm : s.size ≤ maxLen) (J Jx : List Item → World → Prop)
    (hY : ∀ pre x W, J pre W → pre.length < (items s).length → YieldAt Fence.wide 8 Tryd.prog l (itemV x) W fun e W' =>
      (e = .returned (.bool true) ∧ J (pre ++ [x]) W' ∧ KpB n₀ Bn W W') ∨ (e = .returned (.bool false) ∧ Jx (pre ++ [x]) W'))
    (W : World) (hJ : ∀ pre A B, J pre A → Below A.heap.size A B → J pre B)
    (hBn : W.cell? ⟨Bn, 0, none⟩ = some (.string s)) (hBl : Bn < W.heap.size) (hT : ∀ A, Below n₀ W A → tabs A) (hn₀ : n₀ ≤ W.heap.size) (h0 : J [] W) :
    CallsIn Fence.wide 9 Tryd.prog 39 #[.func (.yield l) #[] #[], .pointer (some ⟨Bn, 0, none⟩)] W fun e W' => (∃ v, e = .returned v) ∧
      ((∃ ys, ys = items s ∧ J ys W') ∨ (∃ pre, pre <+: items s ∧ Jx pre W')) := by
  refine callsIn_of_wp Tryd.func39 rfl trivial ?_ rfl
  simp only [Tryd.ntmps39, List.size_toArray, List.length_cons, List.length_nil, Nat.reduceAdd, Nat.reduceSub, Array.replicate_succ, Array.replicate_zero, List.push_toArray, List.append_toArray, List.nil_append, List.cons_append]
  unfold maxLen at hsm
  by_cases hlong : 65536 < s.size
  · have hi : items s = [(0, 0, 0, 3)] := if_pos hlong
    have hlong' : (65536 : Int) < (s.size : Int) := by omega
    obtain ⟨fn, tmps, assign, body, hy, hR⟩ := hY [] (0, 0, 0, 3) W h0 (by rw [hi]; simp)
    have hy' : (Instr.yield l #[.agg #[.int .i64 0, .int .i64 0, .int .i64 0], .int .i64 3]).run Tryd.prog W = .ok (.round l fn tmps assign body) W := hy
    have HI := hq hi
    clear hy hi hJ hT hlong
    gi_wp2
    refine hR.mono ?_
    rintro e W3 (⟨rfl, hJ3, hk3⟩ | ⟨rfl, hJx3⟩)
    · gi_wp2
      refine bodyPost_ret (results_none rfl _ _ _) rfl ?_
      exact ⟨⟨_, rfl⟩, .inl ⟨_, by rw [HI.o]; rfl, hJ3⟩⟩
    · gi_wp2
      refine bodyPost_ret (results_none rfl _ _ _) rfl ?_
      exact ⟨⟨_, rfl⟩, .inr ⟨_, by rw [HI.o]; exact List.prefix_refl _, hJx3⟩⟩
  · have HI : Hq (items s = itemsL s s.size 0) := hq (if_neg hlong)
    have hs : s.size ≤ 1099511627776 := by omega
    have hlong' : ¬ (65536 : Int) < (s.size : Int) := by omega
    have HJ := hq hJ
    have HT := hq hT
    have HB := hq hBn
    have HY := hq hY
    clear hJ hT hY
    gi_wp2
    clear hBn
    gi_loopw [3] (fun at' wr => ∃ (p f : Nat) (pre : List Item), at' = .int .i64 (p : Int) ∧ p ≤ s.size ∧ s.size ≤ p + f ∧ Hq (items s = pre ++ itemsL s f p) ∧ J pre wr ∧ Below n₀ W wr ∧ Hq (wr.heap[Bn]? = W.heap[Bn]?)) (fun at' _ => s.size - (intOf at').toNat)
    case atStart =>
      exact ⟨0, s.size, [], rfl, Nat.zero_le _, by omega, HI, h0, Below.refl _ _, hq rfl⟩
    case round =>
      obtain ⟨p, f, pre, rfl, hp, hf, hit, hj, hb, hbo⟩ := hrel
      clear HI h0
      have hc : wr.cell? ⟨Bn, 0, none⟩ = some (.string s) := (World.cell?_of_block (a := ⟨Bn, 0, none⟩) hbo.o).trans HB.o
      by_cases hlt : p < s.size
      · obtain ⟨f, rfl⟩ : ∃ g, f = g + 1 := ⟨f - 1, by omega⟩
        obtain ⟨b1, b2, b3, b4⟩ := oneM_bd s p hlt
        have HN := hq (next4_any s p wr (HT.o _ hb) hs hlt)
        have HIT : Hq (items s = pre ++ (if (oneM s p).2.2 ≠ 0 then [(0, (oneM s p).2.1, (oneM s p).2.1, (oneM s p).2.2)] else ((oneM s p).1, p, (oneM s p).2.1, 0) :: itemsL s f (oneM s p).2.1)) := hq (by
          rw [hit.o, itemsL, if_pos hlt])
        clear hit
        generalize oneM s p = R at *
        obtain ⟨k, e, err⟩ := R
        simp only at b1 b2 b3 b4
        have hbs := hb.size
        by_cases he : err ≠ 0
        · have hi : items s = pre ++ [(0, e, e, err)] := HIT.o.trans (by rw [if_pos he])
          have e1 : (err != 0) = true := bne_iff_ne.2 he
          have HI2 := hq hi
          have HLN : Hq (pre.length < (items s).length) := hq (by rw [hi]; simp)
          clear hi HIT he b4 HT
          gi_wp2_with (refine ⟨trivial, ?_⟩; gi_at_call 40; refine (callsIn_wide.2 HN.o).mono ?_; rintro e' w2 ⟨rfl, hb2⟩; have hj2 := HJ.o _ _ _ hj hb2; obtain ⟨fn, tmps, assign, body, hy, hR⟩ := HY.o pre (0, e, e, err) w2 hj2 HLN.o; have hy' : (Instr.yield l #[.agg #[.int .i64 0, .int .i64 (e : Int), .int .i64 (e : Int)], .int .i64 err]).run Tryd.prog w2 = .ok (.round l fn tmps assign body) w2 := hy; clear hy)
          refine hR.mono ?_
          rintro e' W3 (⟨rfl, hJ3, hk3⟩ | ⟨rfl, hJx3⟩)
          · gi_wp2
            refine bodyPost_ret (results_none rfl _ _ _) rfl ?_
            exact ⟨⟨_, rfl⟩, .inl ⟨_, by rw [HI2.o], hJ3⟩⟩
          · gi_wp2
            refine bodyPost_ret (results_none rfl _ _ _) rfl ?_
            exact ⟨⟨_, rfl⟩, .inr ⟨_, by rw [HI2.o]; exact List.prefix_refl _, hJx3⟩⟩
        · have hi : items s = pre ++ (k, p, e, 0) :: itemsL s f e := HIT.o.trans (by rw [if_neg he])
          have e1 : (err != 0) = false := by rw [show err = 0 by omega]; rfl
          have b5 := (b4 (by omega)).1
          have HI2 := hq hi
          have HLN : Hq (pre.length < (items s).length) := hq (by rw [hi]; simp)
          clear hi HIT he b4
          gi_wp2_with (refine ⟨trivial, ?_⟩; gi_at_call 40; refine (callsIn_wide.2 HN.o).mono ?_; rintro e' w2 ⟨rfl, hb2⟩; have hj2 := HJ.o _ _ _ hj hb2; obtain ⟨fn, tmps, assign, body, hy, hR⟩ := HY.o pre (k, p, e, 0) w2 hj2 HLN.o; have hy' : (Instr.yield l #[.agg #[.int .i64 (k : Int), .int .i64 (p : Int), .int .i64 (e : Int)], .int .i64 0]).run Tryd.prog w2 = .ok (.round l fn tmps assign body) w2 := hy; clear hy)
          have hbw : Below n₀ W w2 := hb.trans (hb2.mono (by omega))
          have HBW : Hq (w2.heap[Bn]? = W.heap[Bn]?) := hq ((hb2.block Bn (by omega)).trans hbo.o)
          refine hR.mono ?_
          rintro e' W3 (⟨rfl, hJ3, hk3⟩ | ⟨rfl, hJx3⟩)
          · gi_wp2
            go_roundw
            case rel => exact ⟨e, f, pre ++ [(k, p, e, 0)], rfl, b2, by omega, hq (by rw [HI2.o]; simp), hJ3, hbw.trans hk3.1, hq (hk3.2.trans HBW.o)⟩
            case measure => simp [intOf]; omega
          · gi_wp2
            refine bodyPost_ret (results_none rfl _ _ _) rfl ?_
            exact ⟨⟨_, rfl⟩, .inr ⟨_, ⟨itemsL s f e, by rw [HI2.o]; simp⟩, hJx3⟩⟩
      · have HI2 : Hq (items s = pre) := hq (by rw [hit.o, itemsL_end hlt]; simp)
        clear hit
        gi_wp2
        go_end0
        exact ⟨⟨_, rfl⟩, .inl ⟨_, HI2.o.symm, hj⟩⟩

set_option maxHeartbeats 400000 in
theorem all4_any (s : ByteArray) (w : World) : Calls Tryd.prog 31 #[.string s] w fun e w' => e = .returned (.func (.func 39) #[] #[.pointer (some ⟨w.heap.size, 0, none⟩)]) ∧ w' = w.alloc (.cells #[.string s] 9) := by
  have hmf : ∀ fn first cap w, (Instr.makeFunc fn first cap).run Tryd.prog w = .ok (.func fn first cap) w := fun _ _ _ _ => rfl
  go_enter Tryd.func31, Tryd.ntmps31
  go_wp2_with fail
  go_ret
  exact ⟨rfl, rfl⟩
theorem abides_below {J : List Item → World → Prop} {B : Nat} (h : AbidesFrom B J) : ∀ pre A C, J pre A → Below A.heap.size A C → J pre C :=
  fun pre A C hj hb => h pre A C none hj ⟨hb.os, hb.tape, hb.output, hb.size, fun k hk _ => hb.block k hk⟩ (fun r e => by cases e)
theorem all4_stops (Bn n₀ : Nat) (s : ByteArray) (hs : s.size ≤ maxLen) (w : World) (hBn : w.cell? ⟨Bn, 0, none⟩ = some (.string s)) (hBl : Bn < w.heap.size) (hT : ∀ A, Below n₀ w A → tabs A) (hn₀ : n₀ ≤ w.heap.size) :
    SeqStopsK Fence.wide 9 Tryd.prog 39 #[.pointer (some ⟨Bn, 0, none⟩)] itemV (KpB n₀ Bn) (fun ys => ys = items s) (fun pre => pre <+: items s) (items s).length w :=
  fun l J Jx W hW hJ _ hY h0 => all4_one l Bn n₀ s hs J Jx hY W (abides_below hJ) ((hW.cell (p := ⟨Bn, 0, none⟩) hBl).trans hBn) (by have := hW.size; omega) (fun A hA => hT A ((hW.mono hn₀).trans hA)) (by have := hW.size; omega) h0
end Go.Proofs.YtleabaldjlbnlaaDoor
