/-
  WALKS: the document's Tokens, Text.
-/
import Derived.Test.YtinenhnfhdeidaaDoorRLexO
namespace Go.Proofs.YtinenhnfhdeidaaDoor
open Go.RowKit

theorem toksGo_step {s : ByteArray} {f p : Nat} {acc : List Tok} (h : p < s.size) (he : ¬ (oneM s p).2.2 ≠ 0) : toksGo s (f + 1) p acc = toksGo s f (oneM s p).2.1 (acc ++ [((oneM s p).1, p, (oneM s p).2.1)]) := by
  rw [toksGo, if_pos h, if_neg he]
theorem toksGo_bad {s : ByteArray} {f p : Nat} {acc : List Tok} (h : p < s.size) (he : (oneM s p).2.2 ≠ 0) : toksGo s (f + 1) p acc = (acc, (oneM s p).2.1, (oneM s p).2.2) := by
  rw [toksGo, if_pos h, if_pos he]
theorem toksGo_end {s : ByteArray} {f p : Nat} {acc : List Tok} (h : ¬ p < s.size) : toksGo s f p acc = (acc, p, 0) := by
  cases f with
  | zero => rfl
  | succ f => rw [toksGo, if_neg h]

set_option maxHeartbeats 2000000 in
set_option maxRecDepth 1000000 in
theorem rtokens4_any (s : ByteArray) (w : World) (hsm : s.size ≤ maxLen) : Calls Tryd.prog 16 #[.string s] w (TokPost (tokensM s) w) := by
  obtain ⟨i0, hi, hz0, hz1, hz2⟩ := info_parts infoTok
  unfold maxLen at hsm
  have HD : Hq (tokensM s = if 65536 < s.size then ([], 0, 3) else if (toksM s).2.2 ≠ 0 then ([], (toksM s).2.1, (toksM s).2.2) else ((toksM s).1, s.size, 0)) := hq rfl
  have HG : Hq (toksM s = toksGo s s.size 0 []) := hq rfl
  generalize tokensM s = R at *
  by_cases hl : 65536 < s.size
  · have HN := hq (HD.o.trans (if_pos hl))
    clear HD HG
    go_enter Tryd.func16, Tryd.ntmps16
    go_wp2_with fail
    go_ret3
    exact ⟨.slice none 0 0, by rw [HN.o]; rfl, by rw [HN.o]; exact World.ownsRow_nil _ _ _ _, Below.refl _ _⟩
  · have HD2 := hq (HD.o.trans (if_neg hl))
    have hs : s.size ≤ 1099511627776 := by omega
    generalize toksM s = TM at *
    clear HD
    go_enter Tryd.func16, Tryd.ntmps16
    go_wp2_with fail
    go_loopw [5, 6] (fun v i wr => ∃ (p f : Nat) (acc : List Tok), p ≤ s.size ∧ i = .int .i64 (p : Int) ∧ s.size ≤ p + f ∧ acc.length ≤ p ∧ Hq (TM = toksGo s f p acc) ∧ wr.ownsRow w.heap.size 25 3 v acc.length (tokCells acc) ∧ Below w.heap.size w wr) (fun _ i _ => s.size - (intOf i).toNat)
    case atStart => exact ⟨0, s.size, [], Nat.zero_le _, rfl, by omega, Nat.le_refl _, HG, World.ownsRow_nil _ _ _ _, Below.refl _ _⟩
    case round =>
      obtain ⟨p, f, acc, hp, rfl, hf, hal, htm, hown, hb⟩ := hrel
      clear HG
      by_cases hlt : p < s.size
      · obtain ⟨f, rfl⟩ : ∃ g, f = g + 1 := ⟨f - 1, by omega⟩
        obtain ⟨b1, b2, b3, b4⟩ := oneM_bd s p hlt
        have HO := hq (fun W => rone4_any s p W hs hlt)
        have HS := hq (fun h => htm.o.trans (toksGo_step (f := f) (acc := acc) hlt h))
        have HB := hq (fun h => htm.o.trans (toksGo_bad (f := f) (acc := acc) hlt h))
        clear htm
        generalize oneM s p = o at *
        obtain ⟨k, e, err⟩ := o
        simp only at b1 b2 b3 b4
        have hbs := hb.size
        by_cases he : err ≠ 0
        · have ht := HB.o he
          have e1 : (err != 0) = true := bne_iff_ne.2 he
          have HN : Hq (R = ([], e, err)) := hq (by rw [HD2.o, ht]; exact if_pos he)
          clear HB HS he ht HD2 b4 hown
          go_wp2_with fail
          refine (HO.o _).mono ?_
          rintro e' w2 ⟨rfl, hb2⟩
          replace hb := below_trans hb hb2
          clear HO hb2
          go_wp2_with fail
          go_ret3
          exact ⟨.slice none 0 0, by rw [HN.o]; rfl, by rw [HN.o]; exact World.ownsRow_nil _ _ _ _, hb⟩
        · have he0 : err = 0 := by omega
          have e1 : (err != 0) = false := by rw [he0]; rfl
          have HN := hq (HS.o he)
          have b5 := (b4 he0).1
          clear HB HS he he0 b4
          go_wp2_with fail
          refine (HO.o _).mono ?_
          rintro e' w2 ⟨rfl, hb2⟩
          have hown2 : w2.ownsRow w.heap.size 25 3 _ acc.length (tokCells acc) := hown.kept (row := none) ⟨hb2.os, hb2.tape, hb2.output, hb2.size, fun k hk _ => hb2.block k hk⟩ (Classical.em _)
          have hbs2 := hb2.size
          replace hb := below_trans hb hb2
          clear HO hb2 hown
          go_wp2_with (at_builtin; refine wpList_append_own _ rfl _ _ 27 rfl w.heap.size 25 i0 (.agg #[.int .i64 0, .int .i64 0, .int .i64 0]) 3 24 Tryd.underlying27 hi hz0 hz1 hz2 rfl (by decide) _ _ _ rfl (hown2.alloc _) ⟨w2.heap.size, 0, none⟩ 1 1 [.int .i64 (k : Int), .int .i64 (p : Int), .int .i64 (e : Int)] rfl rfl (cells_of_new _ [.int .i64 (k : Int), .int .i64 (p : Int), .int .i64 (e : Int)] _) (three_ints _ _ _) (by unfold maxLen; omega) (by omega) (by rw [World.size_alloc]; omega) ?_)
          intro v' w3 hown3 hgrow _
          have hb3 := (hb.alloc (by omega) (.cells #[.int .i64 (k : Int), .int .i64 (p : Int), .int .i64 (e : Int)] 25)).grown hgrow (by rw [World.size_alloc]; omega) (fun j ej => (hown2.lt j ej).1)
          go_wp2_with fail
          go_roundw
          case rel => exact ⟨e, f, acc ++ [(k, p, e)], b2, rfl, by omega, by rw [List.length_append, List.length_singleton]; omega, HN, by rw [tokCells_snoc, List.length_append]; exact hown3, hb3⟩
          case measure => simp [intOf]; omega
      · obtain rfl : p = s.size := by omega
        have ht := htm.o.trans (toksGo_end hlt)
        have HN : Hq (R = (acc, s.size, 0)) := hq (by rw [HD2.o, ht]; exact if_neg (fun h => h rfl))
        clear htm ht HD2
        go_wp2_with fail
        go_ret3
        exact ⟨_, by rw [HN.o]; rfl, by rw [HN.o]; exact hown, hb⟩

set_option maxHeartbeats 1000000 in
set_option maxRecDepth 1000000 in
theorem rtext4_any (s : ByteArray) (k a b : Int) (w : World) (_hs : s.size ≤ maxLen) (ha : -9223372036854775808 ≤ a ∧ a ≤ 9223372036854775807) (hb : -9223372036854775808 ≤ b ∧ b ≤ 9223372036854775807) :
    Calls Tryd.prog 19 #[.string s, .agg #[.int .i64 k, .int .i64 a, .int .i64 b]] w (TextPost (textT s a b) w) := by
  unfold maxLen at _hs
  obtain ⟨ha1, ha2⟩ := ha
  obtain ⟨hb1, hb2⟩ := hb
  have HN : Hq (textT s a b = if a < 0 ∨ b < a ∨ (s.size : Int) < b then (⟨#[]⟩, false) else (s.extract a.toNat b.toNat, true)) := hq rfl
  have hal := below_alloc w (.cells #[.int .i64 k, .int .i64 a, .int .i64 b] 25)
  generalize textT s a b = R at *
  by_cases h1 : a < 0
  · have HN2 := hq (HN.o.trans (if_pos (.inl h1)))
    clear HN
    go_enter Tryd.func19, Tryd.ntmps19
    go_wp2_with fail
    go_ret2
    exact ⟨by rw [HN2.o]; rfl, hal⟩
  · by_cases h2 : b < a
    · have HN2 := hq (HN.o.trans (if_pos (.inr (.inl h2))))
      clear HN
      go_enter Tryd.func19, Tryd.ntmps19
      go_wp2_with fail
      go_ret2
      exact ⟨by rw [HN2.o]; rfl, hal⟩
    · by_cases h3 : (s.size : Int) < b
      · have HN2 := hq (HN.o.trans (if_pos (.inr (.inr h3))))
        clear HN
        go_enter Tryd.func19, Tryd.ntmps19
        go_wp2_with fail
        go_ret2
        exact ⟨by rw [HN2.o]; rfl, hal⟩
      · have HN2 := hq (HN.o.trans (if_neg (by omega)))
        clear HN
        go_enter Tryd.func19, Tryd.ntmps19
        go_wp2_with fail
        go_ret2
        exact ⟨by rw [HN2.o]; rfl, hal⟩
end Go.Proofs.YtinenhnfhdeidaaDoor
