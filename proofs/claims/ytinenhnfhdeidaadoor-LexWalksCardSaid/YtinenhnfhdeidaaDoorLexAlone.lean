/-
  WALKS: lex.Text; the law LexAlone.
-/
import Derived.Test.YtinenhnfhdeidaaDoorLexS
import Derived.BigQuiet
import Derived.Deep.QuietTactic
namespace Go.Proofs.YtinenhnfhdeidaaDoor
open Go.RowKit

def textT (s : ByteArray) (a b : Int) : ByteArray × Bool := if a < 0 ∨ b < a ∨ (s.size : Int) < b then (⟨#[]⟩, false) else (s.extract a.toNat b.toNat, true)
def TextPost (r : ByteArray × Bool) (w : World) (e : Ending) (w' : World) : Prop := e = .returned (.tuple #[.string r.1, .bool r.2]) ∧ Below w.heap.size w w'
set_option maxHeartbeats 1000000 in
set_option maxRecDepth 1000000 in
theorem text4_any (s : ByteArray) (k a b : Int) (w : World) (_hs : s.size ≤ maxLen) (ha : -9223372036854775808 ≤ a ∧ a ≤ 9223372036854775807) (hb : -9223372036854775808 ≤ b ∧ b ≤ 9223372036854775807) :
    Calls Tryd.prog 18 #[.string s, .agg #[.int .i64 k, .int .i64 a, .int .i64 b]] w (TextPost (textT s a b) w) := by
  unfold maxLen at _hs
  obtain ⟨ha1, ha2⟩ := ha
  obtain ⟨hb1, hb2⟩ := hb
  have HN : Hq (textT s a b = if a < 0 ∨ b < a ∨ (s.size : Int) < b then (⟨#[]⟩, false) else (s.extract a.toNat b.toNat, true)) := hq rfl
  have hal := below_alloc w (.cells #[.int .i64 k, .int .i64 a, .int .i64 b] 25)
  generalize textT s a b = R at *
  by_cases h1 : a < 0
  · have HN2 := hq (HN.o.trans (if_pos (.inl h1)))
    clear HN
    go_enter Tryd.func18, Tryd.ntmps18
    go_wp2_with fail
    go_ret2
    exact ⟨by rw [HN2.o]; rfl, hal⟩
  · by_cases h2 : b < a
    · have HN2 := hq (HN.o.trans (if_pos (.inr (.inl h2))))
      clear HN
      go_enter Tryd.func18, Tryd.ntmps18
      go_wp2_with fail
      go_ret2
      exact ⟨by rw [HN2.o]; rfl, hal⟩
    · by_cases h3 : (s.size : Int) < b
      · have HN2 := hq (HN.o.trans (if_pos (.inr (.inr h3))))
        clear HN
        go_enter Tryd.func18, Tryd.ntmps18
        go_wp2_with fail
        go_ret2
        exact ⟨by rw [HN2.o]; rfl, hal⟩
      · have HN2 := hq (HN.o.trans (if_neg (by omega)))
        clear HN
        go_enter Tryd.func18, Tryd.ntmps18
        go_wp2_with fail
        go_ret2
        exact ⟨by rw [HN2.o]; rfl, hal⟩

theorem tokensM_mem {s : ByteArray} {x : Tok} (h : x ∈ (tokensM s).1) : x.2.1 < x.2.2 ∧ x.2.2 ≤ s.size ∧ oneM s x.2.1 = (x.1, x.2.2, 0) := by
  unfold tokensM at h
  split at h
  · cases h
  · split at h
    · cases h
    · unfold toksM at h
      rw [toksGo_L] at h
      simp only [List.nil_append] at h
      exact toksL_mem s s.size 0 (Nat.zero_le _) x h
theorem tokensM_alone {s : ByteArray} {x : Tok} (h : x ∈ (tokensM s).1) (hs : s.size ≤ 65536) : tokensM (s.extract x.2.1 x.2.2) = ([(x.1, 0, (s.extract x.2.1 x.2.2).size)], (s.extract x.2.1 x.2.2).size, 0) := by
  obtain ⟨h1, h2, h3⟩ := tokensM_mem h
  have hz : (s.extract x.2.1 x.2.2).size = x.2.2 - x.2.1 := by rw [ByteArray.size_extract]; omega
  have ha := toks_alone h1 h2 h3
  unfold tokensM
  rw [if_neg (by omega), ha, hz]
  rfl

set_option maxHeartbeats 2000000 in
set_option maxRecDepth 1000000 in
theorem lexalone_any (s : ByteArray) (w : World) (hT : tabs w) (hs : s.size ≤ maxLen) :
    Calls Tryd.prog 6 #[.string s] w fun e w' => e = .returned (.bool true) ∧ Below w.heap.size w w' := by
  have HT := hq hT
  have HS := hq hs
  have hsb : s.size ≤ 9223372036854775807 := by unfold maxLen at hs; omega
  have HTK := hq (fun W (hW : tabs W) => tokens4_any s W hW hs)
  have hlen := (tokensM_len s).1
  have HMEM := hq (fun x => @tokensM_mem s x)
  have HAL := hq (fun x => @tokensM_alone s x)
  clear hT hs
  generalize tokensM s = R at *
  obtain ⟨l, n, err⟩ := R
  simp only at hlen
  go_enter Tryd.func6, Tryd.ntmps6
  go_wp2_with fail
  refine (lsmall_any _ HT.o).mono ?_
  rintro e w1 ⟨rfl, hb⟩
  have HT1 := hq (tabs_grow HT.o hb)
  go_wp2_with fail
  refine (HTK.o _ HT1.o).mono ?_
  rintro e w2 ⟨v, rfl, hown, hb2⟩
  have HT2 := hq (tabs_grow HT1.o hb2)
  have hb12 := below_trans hb hb2
  obtain ⟨vb, vc, rfl⟩ := toks_len hown
  have HOWN := hq hown
  clear hb hb2 HTK HT HT1 hown
  by_cases he : err = 0
  · have e1 : (err != 0) = false := by rw [he]; rfl
    by_cases hbig : 1024 < s.size
    · clear he HAL HMEM HOWN
      go_wp2_with fail
      go_ret
      exact ⟨rfl, hb12⟩
    · clear he
      go_wp2_with fail
      go_loopw [7] (fun i wr => ∃ k : Nat, k ≤ l.length ∧ i = .int .i64 (k : Int) ∧ Below w2.heap.size w2 wr) (fun i _ => l.length - (intOf i).toNat)
      case atStart => exact ⟨0, Nat.zero_le _, rfl, Below.refl _ _⟩
      case round =>
        obtain ⟨k, hk, rfl, hbr⟩ := hrel
        by_cases hkl : k < l.length
        · obtain ⟨g, cap, hv, hg1, hg2, hcap, hcm, hfr, hcell⟩ := toks_cell HOWN.o (by omega)
          cases hv
          have hx : l[k]? = some l[k] := List.getElem?_eq_getElem hkl
          obtain ⟨c1, c2, c3⟩ := hcell k _ hx
          have hmem : l[k] ∈ l := List.getElem_mem hkl
          obtain ⟨m1, m2, m3⟩ := HMEM.o _ hmem
          have HA := hq (HAL.o _ hmem (by omega))
          unfold maxLen at hcm
          clear hcell hx hfr hmem HMEM HAL
          generalize l[k] = x at *
          obtain ⟨kd, fr, t2⟩ := x
          simp only at c1 c2 c3 m1 m2
          dsimp only at HA
          have d1 := (hbr.cell (p := ⟨g, k * 3, none⟩) hg2).trans c1
          have d2 := (hbr.cell (p := ⟨g, k * 3 + 1, none⟩) hg2).trans c2
          have d3 := (hbr.cell (p := ⟨g, k * 3 + 2, none⟩) hg2).trans c3
          have HTX := hq (text4_any s (kd : Int) (fr : Int) (t2 : Int) wr HS.o (by omega) (by omega))
          have htx : textT s (fr : Int) (t2 : Int) = (s.extract fr t2, true) := by unfold textT; rw [if_neg (by omega)]; rfl
          rw [htx] at HTX
          have hTz : (s.extract fr t2).size ≤ 1024 := by rw [ByteArray.size_extract]; omega
          have HTK2 := hq (fun W (hW : tabs W) => tokens4_any (s.extract fr t2) W hW (by unfold maxLen; omega))
          rw [HA.o] at HTK2
          have HTR := hq (tabs_grow HT2.o hbr)
          clear HA htx m3 m1 m2
          generalize s.extract fr t2 = T at *
          go_wp2_with fail
          refine HTX.o.mono ?_
          rintro e w3 ⟨rfl, hb3⟩
          have HTR3 := hq (tabs_grow HTR.o hb3)
          have hbr3 := hbr.trans (hb3.mono hbr.size)
          clear HTX
          go_wp2_with fail
          refine (HTK2.o _ HTR3.o).mono ?_
          rintro e w4 ⟨v4, rfl, hown4, hb4⟩
          have hbr4 := hbr3.trans (hb4.mono hbr3.size)
          obtain ⟨g4, cap4, rfl, _, _, hcap4, hcm4, _, hcell4⟩ := toks_cell hown4 (Nat.zero_lt_one)
          obtain ⟨q1, q2, q3⟩ := hcell4 0 _ rfl
          have q1' : w4.cell? ⟨g4, 0, none⟩ = some (.int .i64 (kd : Int)) := q1
          have q2' : w4.cell? ⟨g4, 1, none⟩ = some (.int .i64 0) := q2
          have q3' : w4.cell? ⟨g4, 2, none⟩ = some (.int .i64 (T.size : Int)) := q3
          have r1 := (hbr4.cell (p := ⟨g, k * 3, none⟩) hg2).trans c1
          have qe : ∀ W : World, (Op.equalIn 10000 25 (.agg #[.int .i64 (kd : Int), .int .i64 0, .int .i64 (T.size : Int)]) (.agg #[.int .i64 (kd : Int), .int .i64 0, .int .i64 (T.size : Int)])).run Tryd.prog W = .ok true W := fun W => by
            rw [eq_tok]; simp
          have e9 : ((T.size : Int) != (T.size : Int)) = false := bne_self_eq_false _
          unfold maxLen at hcm4
          clear hcell4 q1 q2 q3 hown4 c1 c2 c3 d1 d2 d3 HTK2 hb3 hb4 hbr3
          go_wp2_with fail
          go_quiet (fail)
          go_wp2_with fail
          go_roundw
          case rel => exact ⟨k + 1, by omega, int_eq (by omega), below_drewN hbr4 _⟩
          case measure => simp [intOf]; omega
        · clear HAL HMEM HOWN
          go_wp2_with fail
          go_ret
          exact ⟨rfl, hb12.trans (hbr.mono hb12.size)⟩
  · have e1 : (err != 0) = true := bne_iff_ne.2 he
    clear he HAL HMEM HOWN
    go_wp2_with fail
    go_ret
    exact ⟨rfl, hb12⟩
end Go.Proofs.YtinenhnfhdeidaaDoor
