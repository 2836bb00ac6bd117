/-
  THE WALK OF THE LAW LexTokens.
-/
import Derived.Test.YtinenhnfhdeidaaDoorRLexT
namespace Go.Proofs.YtinenhnfhdeidaaDoor
open Go.RowKit

theorem row_below {w w' : World} {B : Nat} {v : Value} {l : List Tok} (h : w.ownsRow B 25 3 v l.length (tokCells l)) (hb : Below w.heap.size w w') : w'.ownsRow B 25 3 v l.length (tokCells l) :=
  h.kept (row := none) ⟨hb.os, hb.tape, hb.output, hb.size, fun k hk _ => hb.block k hk⟩ (Classical.em _)

set_option maxHeartbeats 2000000 in
set_option maxRecDepth 1000000 in
theorem ltokens_any (s : ByteArray) (k a b : Int) (w : World) (hT : tabs w) (hs : s.size ≤ maxLen) (_ : -9223372036854775808 ≤ k ∧ k ≤ 9223372036854775807) (ha : -9223372036854775808 ≤ a ∧ a ≤ 9223372036854775807) (hb : -9223372036854775808 ≤ b ∧ b ≤ 9223372036854775807) :
    Calls Tryd.prog 3 #[.string s, .agg #[.int .i64 k, .int .i64 a, .int .i64 b]] w fun e w' => e = .returned (.bool true) ∧ Below w.heap.size w w' := by
  have hsb : s.size ≤ 9223372036854775807 := by unfold maxLen at hs; omega
  have HTK := hq (fun W (hW : tabs W) => tokens4_any s W hW hs)
  have HRT := hq (fun W => rtokens4_any s W hs)
  have HTX := hq (fun W => text4_any s k a b W hs ha hb)
  have HRX := hq (fun W => rtext4_any s k a b W hs ha hb)
  have hlen := (tokensM_len s).1
  have hal := below_alloc w (.cells #[.int .i64 k, .int .i64 a, .int .i64 b] 25)
  have hW := Whole.made w 25 #[.int .i64 k, .int .i64 a, .int .i64 b]
  have HT := hq (tabs_grow hT hal)
  clear hT hs ha hb
  generalize tokensM s = R at *
  generalize textT s a b = X at *
  obtain ⟨l, n, err⟩ := R
  obtain ⟨xt, xb⟩ := X
  simp only at hlen
  have e1 : ((n : Int) == (n : Int)) = true := beq_self_eq_true _
  have e2 : (err == err) = true := beq_self_eq_true _
  have e3 : (xb == xb) = true := beq_self_eq_true _
  go_enter Tryd.func3, Tryd.ntmps3
  go_wp2_with fail
  refine (lsmall_any _ HT.o).mono ?_
  rintro e w1 ⟨rfl, hb2⟩
  have HT1 := hq (tabs_grow HT.o hb2)
  have hw1 := hW.grow hb2
  have hb := below_trans hal hb2
  clear hal hb2 hW
  by_cases hmid : 2048 < s.size ∧ s.size ≤ 65536
  · obtain ⟨m1, m2⟩ := hmid
    have m1' : (2048 : Int) < (s.size : Int) := by omega
    have m2' : (s.size : Int) ≤ 65536 := by omega
    clear HTK HRT HTX HRX
    go_wp2_with fail
    go_ret
    exact ⟨rfl, hb⟩
  · have key : (¬ (2048 : Int) < (s.size : Int)) ∨ ((2048 : Int) < (s.size : Int) ∧ ¬ (s.size : Int) ≤ 65536) := by omega
    have hwl := hw1.lt
    clear hmid
    have HW1 := hq hw1
    clear hw1
    rcases key with m1 | ⟨m1, m2⟩
    all_goals
      go_wp2_with fail
      refine (HTK.o _ HT1.o).mono ?_
      rintro e w2 ⟨v, rfl, hown, hb2⟩
      go_wp2_with fail
      refine (HRT.o _).mono ?_
      rintro e w3 ⟨v', rfl, hown', hb3⟩
      have hown3 := row_below hown hb3
      have hb23 := below_trans hb2 hb3
      clear hown hb2 hb3
      go_wp2_with fail
      refine (same4_any l v v' _ ⟨_, hown3⟩ ⟨_, hown'⟩ (by omega)).mono ?_
      rintro e w4 ⟨rfl, hb4⟩
      have hown4 := row_below hown3 hb4
      have hb24 := below_trans hb23 hb4
      obtain ⟨vb, vc, rfl⟩ := toks_len hown4
      clear hown3 hown' hb23 hb4 HTK HRT
      have HOWN := hq hown4
      clear hown4
      go_wp2_with fail
      go_loopw [13] (fun i wr => ∃ j : Nat, j ≤ l.length ∧ i = .int .i64 (j : Int) ∧ Below w1.heap.size w1 wr ∧ Hq (∀ g, vb = some ⟨g, 0, none⟩ → (∀ o, wr.frozen? ⟨g, o, none⟩ = w4.frozen? ⟨g, o, none⟩) ∧ (∀ o, (wr.cell? ⟨g, o, none⟩).isSome = (w4.cell? ⟨g, o, none⟩).isSome))) (fun i _ => l.length - (intOf i).toNat)
      case atStart => exact ⟨0, Nat.zero_le _, rfl, hb24, hq (fun g _ => ⟨fun _ => rfl, fun _ => rfl⟩)⟩
      case round =>
        obtain ⟨j, hj, rfl, hbr, hkeep⟩ := hrel
        by_cases hjl : j < l.length
        · obtain ⟨g, cap, hv, hg1, hg2, hcap, hcm, hfr, hcell⟩ := toks_cell HOWN.o (by omega)
          cases hv
          have hx : l[j]? = some l[j] := List.getElem?_eq_getElem hjl
          obtain ⟨c1, _, _⟩ := hcell j _ hx
          obtain ⟨f1, f2⟩ := hkeep.o g rfl
          have hc := f2 (j * 3)
          rw [c1] at hc
          obtain ⟨u, hu⟩ := Option.isSome_iff_exists.1 hc
          have hf0 : wr.frozen? ⟨g, j * 3, none⟩ = false := (f1 (j * 3)).trans (hfr _)
          have HF1 := hq f1
          have HF2 := hq f2
          unfold maxLen at hcm
          clear hcell hx c1 hkeep hfr hc f1 f2
          go_wp2_with fail
          go_roundw
          case rel =>
            refine ⟨j + 1, by omega, int_eq (by omega), hbr.setCell (p := ⟨g, j * 3, none⟩) hg1 _, hq (fun g' hg' => ?_)⟩
            cases hg'
            refine ⟨fun o => by rw [World.frozen?_setCell]; exact HF1.o o, fun o => ?_⟩
            rw [← HF2.o o]
            by_cases ho : o = j * 3
            · subst ho
              rw [World.cell?_setCell_same' _ _ _ (by rw [hu]; rfl), hu]; rfl
            · rw [World.cell?_setCell_other (h := fun hh => ho (by injection hh with _ h2 _; exact h2.symm))]
          case measure => simp [intOf]; omega
        · have hw5 := HW1.o.grow hbr
          have x0 := hw5.at_ 0
          have x1 := hw5.at_ 1
          have x2 := hw5.at_ 2
          have hb5 := below_trans hb hbr
          clear hkeep HOWN hb24
          go_wp2_with fail
          refine (HTX.o _).mono ?_
          rintro e w6 ⟨rfl, hb6⟩
          have hw6 := hw5.grow hb6
          have y0 := hw6.at_ 0
          have y1 := hw6.at_ 1
          have y2 := hw6.at_ 2
          have hb7 := below_trans hb5 hb6
          clear x0 x1 x2 hw5 HTX hb6 hb5
          go_wp2_with fail
          refine (HRX.o _).mono ?_
          rintro e w8 ⟨rfl, hb8⟩
          have hb9 := below_trans hb7 hb8
          clear y0 y1 y2 hw6 HRX hb8 hb7
          go_wp2_with fail
          go_ret
          exact ⟨rfl, hb9⟩
end Go.Proofs.YtinenhnfhdeidaaDoor
