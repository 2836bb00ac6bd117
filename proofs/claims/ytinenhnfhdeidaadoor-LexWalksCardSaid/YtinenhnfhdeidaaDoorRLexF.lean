/-
  WALKS: the document's Front (the tokens ahead of the first error).
-/
import Derived.Test.YtinenhnfhdeidaaDoorRLexT
namespace Go.Proofs.YtinenhnfhdeidaaDoor
open Go.RowKit

def frontM (s : ByteArray) : List Tok := if 65536 < s.size then [] else (toksM s).1
def FrontPost (l : List Tok) (w : World) (e : Ending) (w' : World) : Prop := ∃ v, e = .returned v ∧ w'.ownsRow w.heap.size 25 3 v l.length (tokCells l) ∧ Below w.heap.size w w'
set_option maxHeartbeats 2000000 in
set_option maxRecDepth 1000000 in
theorem rfront4_any (s : ByteArray) (w : World) (hsm : s.size ≤ maxLen) : Calls Tryd.prog 20 #[.string s] w (FrontPost (frontM s) w) := by
  obtain ⟨i0, hi, hz0, hz1, hz2⟩ := info_parts infoTok
  unfold maxLen at hsm
  have HD : Hq (frontM s = if 65536 < s.size then [] else (toksM s).1) := hq rfl
  have HG : Hq (toksM s = toksGo s s.size 0 []) := hq rfl
  generalize frontM s = R at *
  by_cases hl : 65536 < s.size
  · have HN := hq (HD.o.trans (if_pos hl))
    have hl' : ¬ (s.size : Int) ≤ 65536 := by omega
    have hp' : 0 < s.size := by omega
    clear HD HG hl
    go_enter Tryd.func20, Tryd.ntmps20
    go_wp2_with fail
    go_loopw [3, 4] (fun v i wr => v = .slice none 0 0 ∧ i = .int .i64 0 ∧ Below w.heap.size w wr) (fun _ _ _ => 0)
    case atStart => exact ⟨rfl, rfl, Below.refl _ _⟩
    case round =>
      obtain ⟨rfl, rfl, hb⟩ := hrel
      go_wp2_with fail
      go_ret
      exact ⟨.slice none 0 0, rfl, by rw [HN.o]; exact World.ownsRow_nil _ _ _ _, hb⟩
  · have HD2 := hq (HD.o.trans (if_neg hl))
    have hs : s.size ≤ 1099511627776 := by omega
    have hl' : (s.size : Int) ≤ 65536 := by omega
    generalize toksM s = TM at *
    clear HD
    go_enter Tryd.func20, Tryd.ntmps20
    go_wp2_with fail
    go_loopw [3, 4] (fun v i wr => ∃ (p f : Nat) (acc : List Tok), p ≤ s.size ∧ i = .int .i64 (p : Int) ∧ s.size ≤ p + f ∧ acc.length ≤ p ∧ Hq (TM = toksGo s f p acc) ∧ wr.ownsRow w.heap.size 25 3 v acc.length (tokCells acc) ∧ Below w.heap.size w wr) (fun _ i _ => s.size - (intOf i).toNat)
    case atStart => exact ⟨0, s.size, [], Nat.zero_le _, rfl, by omega, Nat.le_refl _, HG, World.ownsRow_nil _ _ _ _, Below.refl _ _⟩
    case round =>
      obtain ⟨p, f, acc, hp, rfl, hf, hal, htm, hown, hb⟩ := hrel
      clear HG
      by_cases hlt : p < s.size
      · obtain ⟨f, rfl⟩ : ∃ g, f = g + 1 := ⟨f - 1, by omega⟩
        obtain ⟨b1, b2, b3, b4⟩ := oneM_bd s p hlt
        have HO := hq (fun W => rone4_any s p W hs hlt)
        have HS := hq (fun h => htm.o.trans (toksGo_step (f := f) (acc := acc) hlt h))
        have HB := hq (fun h => htm.o.trans (toksGo_bad (f := f) (acc := acc) hlt h))
        clear htm
        generalize oneM s p = o at *
        obtain ⟨k, e, err⟩ := o
        simp only at b1 b2 b3 b4
        have hbs := hb.size
        by_cases he : err ≠ 0
        · have ht := HB.o he
          have e1 : (err != 0) = true := bne_iff_ne.2 he
          have HN : Hq (R = acc) := hq (by rw [HD2.o, ht])
          have HOW := hq hown
          clear HB HS he ht HD2 b4 hown
          go_wp2_with fail
          refine (HO.o _).mono ?_
          rintro e' w2 ⟨rfl, hb2⟩
          have hown2 : w2.ownsRow w.heap.size 25 3 _ acc.length (tokCells acc) := HOW.o.kept (row := none) ⟨hb2.os, hb2.tape, hb2.output, hb2.size, fun k hk _ => hb2.block k hk⟩ (Classical.em _)
          have HOW2 := hq hown2
          replace hb := below_trans hb hb2
          clear HO hb2 HOW hown2
          go_wp2_with fail
          go_ret
          exact ⟨_, rfl, by rw [HN.o]; exact HOW2.o, hb⟩
        · have he0 : err = 0 := by omega
          have e1 : (err != 0) = false := by rw [he0]; rfl
          have HN := hq (HS.o he)
          have b5 := (b4 he0).1
          clear HB HS he he0 b4
          go_wp2_with fail
          refine (HO.o _).mono ?_
          rintro e' w2 ⟨rfl, hb2⟩
          have hown2 : w2.ownsRow w.heap.size 25 3 _ acc.length (tokCells acc) := hown.kept (row := none) ⟨hb2.os, hb2.tape, hb2.output, hb2.size, fun k hk _ => hb2.block k hk⟩ (Classical.em _)
          have hbs2 := hb2.size
          replace hb := below_trans hb hb2
          clear HO hb2 hown
          go_wp2_with (at_builtin; refine wpList_append_own _ rfl _ _ 27 rfl w.heap.size 25 i0 (.agg #[.int .i64 0, .int .i64 0, .int .i64 0]) 3 24 Tryd.underlying27 hi hz0 hz1 hz2 rfl (by decide) _ _ _ rfl (hown2.alloc _) ⟨w2.heap.size, 0, none⟩ 1 1 [.int .i64 (k : Int), .int .i64 (p : Int), .int .i64 (e : Int)] rfl rfl (cells_of_new _ [.int .i64 (k : Int), .int .i64 (p : Int), .int .i64 (e : Int)] _) (three_ints _ _ _) (by unfold maxLen; omega) (by omega) (by rw [World.size_alloc]; omega) ?_)
          intro v' w3 hown3 hgrow _
          have hb3 := (hb.alloc (by omega) (.cells #[.int .i64 (k : Int), .int .i64 (p : Int), .int .i64 (e : Int)] 25)).grown hgrow (by rw [World.size_alloc]; omega) (fun j ej => (hown2.lt j ej).1)
          go_wp2_with fail
          go_roundw
          case rel => exact ⟨e, f, acc ++ [(k, p, e)], b2, rfl, by omega, by rw [List.length_append, List.length_singleton]; omega, HN, by rw [tokCells_snoc, List.length_append]; exact hown3, hb3⟩
          case measure => simp [intOf]; omega
      · obtain rfl : p = s.size := by omega
        have ht := htm.o.trans (toksGo_end hlt)
        have HN : Hq (R = acc) := hq (by rw [HD2.o, ht])
        clear htm ht HD2
        go_wp2_with fail
        go_ret
        exact ⟨_, rfl, by rw [HN.o]; exact hown, hb⟩
end Go.Proofs.YtinenhnfhdeidaaDoor
