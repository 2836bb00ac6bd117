/-
  WALKS: the iterator of lex.All, handed a function value of the law LexWalks.
-/
import Derived.Test.YtinenhnfhdeidaaDoorLexI
namespace Go.Proofs.YtinenhnfhdeidaaDoor
open Go.RowKit

set_option maxRecDepth 1000000 in
set_option maxHeartbeats 2000000 in
theorem all4_fn (Bn n₀ : Nat) (c0 c1 c2 c3 c4 c5 c6 : Value) (s : ByteArray) (hsm : s.size ≤ maxLen) (J Jx : List Item → World → Prop)
    (hY : ∀ pre x W, J pre W → pre ++ [x] <+: items s → Calls Tryd.prog 22 #[tokV x.1 x.2.1 x.2.2.1, .int .i64 x.2.2.2, c0, c1, c2, c3, c4, c5, c6] W fun e W' =>
      (e = .returned (.bool true) ∧ J (pre ++ [x]) W' ∧ KpB n₀ Bn W W') ∨ (e = .returned (.bool false) ∧ Jx (pre ++ [x]) W'))
    (W : World) (hJ : ∀ pre A B, J pre A → Below A.heap.size A B → J pre B)
    (hBn : W.cell? ⟨Bn, 0, none⟩ = some (.string s)) (hBl : Bn < W.heap.size) (hT : ∀ A, Below n₀ W A → tabs A) (hn₀ : n₀ ≤ W.heap.size) (h0 : J [] W) :
    Calls Tryd.prog 33 #[.func (.func 22) #[] #[c0, c1, c2, c3, c4, c5, c6], .pointer (some ⟨Bn, 0, none⟩)] W fun e W' => e = .returned (.tuple #[]) ∧
      (J (items s) W' ∨ ∃ pre, pre <+: items s ∧ Jx pre W') := by
  unfold maxLen at hsm
  by_cases hlong : 65536 < s.size
  · have hi : items s = [(0, 0, 0, 3)] := if_pos hlong
    have hlong' : (65536 : Int) < (s.size : Int) := by omega
    have HC : Hq (Calls Tryd.prog 22 #[.agg #[.int .i64 0, .int .i64 0, .int .i64 0], .int .i64 3, c0, c1, c2, c3, c4, c5, c6] W fun e W' =>
      (e = .returned (.bool true) ∧ J ([] ++ [(0, 0, 0, 3)]) W' ∧ KpB n₀ Bn W W') ∨ (e = .returned (.bool false) ∧ Jx ([] ++ [(0, 0, 0, 3)]) W')) := hq (hY [] (0, 0, 0, 3) W h0 (by rw [hi]; exact List.prefix_refl _))
    have HI := hq hi
    clear hi hJ hT hlong hY
    go_enter Tryd.func33, Tryd.ntmps33
    go_wp2_with fail
    refine HC.o.mono ?_
    rintro e W3 (⟨rfl, hJ3, hk3⟩ | ⟨rfl, hJx3⟩)
    · go_wp2_with fail
      refine bodyPost_ret (results_none rfl _ _ _) rfl ?_
      exact ⟨rfl, .inl (by rw [HI.o]; exact hJ3)⟩
    · go_wp2_with fail
      refine bodyPost_ret (results_none rfl _ _ _) rfl ?_
      exact ⟨rfl, .inr ⟨_, by rw [HI.o]; exact List.prefix_refl _, hJx3⟩⟩
  · have HI : Hq (items s = itemsL s s.size 0) := hq (if_neg hlong)
    have hs : s.size ≤ 1099511627776 := by omega
    have hlong' : ¬ (65536 : Int) < (s.size : Int) := by omega
    have HJ := hq hJ
    have HT := hq hT
    have HB := hq hBn
    have HY := hq hY
    clear hJ hT hY
    go_enter Tryd.func33, Tryd.ntmps33
    go_wp2_with fail
    clear hBn
    go_loopw [3] (fun at' wr => ∃ (p f : Nat) (pre : List Item), at' = .int .i64 (p : Int) ∧ p ≤ s.size ∧ s.size ≤ p + f ∧ Hq (items s = pre ++ itemsL s f p) ∧ J pre wr ∧ Below n₀ W wr ∧ Hq (wr.heap[Bn]? = W.heap[Bn]?)) (fun at' _ => s.size - (intOf at').toNat)
    case atStart =>
      exact ⟨0, s.size, [], rfl, Nat.zero_le _, by omega, HI, h0, Below.refl _ _, hq rfl⟩
    case round =>
      obtain ⟨p, f, pre, rfl, hp, hf, hit, hj, hb, hbo⟩ := hrel
      clear HI h0
      have hc : wr.cell? ⟨Bn, 0, none⟩ = some (.string s) := (World.cell?_of_block (a := ⟨Bn, 0, none⟩) hbo.o).trans HB.o
      by_cases hlt : p < s.size
      · obtain ⟨f, rfl⟩ : ∃ g, f = g + 1 := ⟨f - 1, by omega⟩
        obtain ⟨b1, b2, b3, b4⟩ := oneM_bd s p hlt
        have HN := hq (next4_any s p wr (HT.o _ hb) hs hlt)
        have HIT : Hq (items s = pre ++ (if (oneM s p).2.2 ≠ 0 then [(0, (oneM s p).2.1, (oneM s p).2.1, (oneM s p).2.2)] else ((oneM s p).1, p, (oneM s p).2.1, 0) :: itemsL s f (oneM s p).2.1)) := hq (by
          rw [hit.o, itemsL, if_pos hlt])
        clear hit
        generalize oneM s p = R at *
        obtain ⟨k, e, err⟩ := R
        simp only at b1 b2 b3 b4
        have hbs := hb.size
        by_cases he : err ≠ 0
        · have hi : items s = pre ++ [(0, e, e, err)] := HIT.o.trans (by rw [if_pos he])
          have e1 : (err != 0) = true := bne_iff_ne.2 he
          have HI2 := hq hi
          clear hi HIT he b4 HT
          go_wp2_with fail
          refine HN.o.mono ?_
          rintro e' w2 ⟨rfl, hb2⟩
          have HC : Hq (Calls Tryd.prog 22 #[.agg #[.int .i64 0, .int .i64 (e : Int), .int .i64 (e : Int)], .int .i64 err, c0, c1, c2, c3, c4, c5, c6] w2 fun e' W' =>
            (e' = .returned (.bool true) ∧ J (pre ++ [(0, e, e, err)]) W' ∧ KpB n₀ Bn w2 W') ∨ (e' = .returned (.bool false) ∧ Jx (pre ++ [(0, e, e, err)]) W')) := hq (HY.o pre (0, e, e, err) w2 (HJ.o _ _ _ hj hb2) (by rw [HI2.o]; exact List.prefix_refl _))
          clear HN HY HJ
          go_wp2_with fail
          refine HC.o.mono ?_
          rintro e' W3 (⟨rfl, hJ3, hk3⟩ | ⟨rfl, hJx3⟩)
          · go_wp2_with fail
            refine bodyPost_ret (results_none rfl _ _ _) rfl ?_
            exact ⟨rfl, .inl (by rw [HI2.o]; exact hJ3)⟩
          · go_wp2_with fail
            refine bodyPost_ret (results_none rfl _ _ _) rfl ?_
            exact ⟨rfl, .inr ⟨_, by rw [HI2.o]; exact List.prefix_refl _, hJx3⟩⟩
        · have hi : items s = pre ++ (k, p, e, 0) :: itemsL s f e := HIT.o.trans (by rw [if_neg he])
          have e1 : (err != 0) = false := by rw [show err = 0 by omega]; rfl
          have b5 := (b4 (by omega)).1
          have HI2 := hq hi
          clear hi HIT he b4
          go_wp2_with fail
          refine HN.o.mono ?_
          rintro e' w2 ⟨rfl, hb2⟩
          have HC : Hq (Calls Tryd.prog 22 #[.agg #[.int .i64 (k : Int), .int .i64 (p : Int), .int .i64 (e : Int)], .int .i64 0, c0, c1, c2, c3, c4, c5, c6] w2 fun e' W' =>
            (e' = .returned (.bool true) ∧ J (pre ++ [(k, p, e, 0)]) W' ∧ KpB n₀ Bn w2 W') ∨ (e' = .returned (.bool false) ∧ Jx (pre ++ [(k, p, e, 0)]) W')) := hq (HY.o pre (k, p, e, 0) w2 (HJ.o _ _ _ hj hb2) (by rw [HI2.o]; exact ⟨itemsL s f e, by simp⟩))
          have hbw : Below n₀ W w2 := hb.trans (hb2.mono (by omega))
          have HBW : Hq (w2.heap[Bn]? = W.heap[Bn]?) := hq ((hb2.block Bn (by omega)).trans hbo.o)
          clear HN HY HJ
          go_wp2_with fail
          refine HC.o.mono ?_
          rintro e' W3 (⟨rfl, hJ3, hk3⟩ | ⟨rfl, hJx3⟩)
          · go_wp2_with fail
            go_roundw
            case rel => exact ⟨e, f, pre ++ [(k, p, e, 0)], rfl, b2, by omega, hq (by rw [HI2.o]; simp), hJ3, hbw.trans hk3.1, hq (hk3.2.trans HBW.o)⟩
            case measure => simp [intOf]; omega
          · go_wp2_with fail
            refine bodyPost_ret (results_none rfl _ _ _) rfl ?_
            exact ⟨rfl, .inr ⟨_, ⟨itemsL s f e, by rw [HI2.o]; simp⟩, hJx3⟩⟩
      · have HI2 : Hq (items s = pre) := hq (by rw [hit.o, itemsL_end hlt]; simp)
        clear hit HY HJ
        go_wp2_with fail
        go_end0
        exact ⟨rfl, .inl (by rw [HI2.o]; exact hj)⟩
end Go.Proofs.YtinenhnfhdeidaaDoor
