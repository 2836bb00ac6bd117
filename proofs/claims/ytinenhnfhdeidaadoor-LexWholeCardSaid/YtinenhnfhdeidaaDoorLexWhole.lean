/-
  THE WALK OF THE LAW LexWhole: tokens one behind another are the text.
-/
import Derived.Test.YtinenhnfhdeidaaDoorLexS
namespace Go.Proofs.YtinenhnfhdeidaaDoor
open Go.RowKit

theorem tokensM_whole {s : ByteArray} (h : (tokensM s).2.2 = 0) : (tokensM s).2.1 = s.size ∧ Chain (tokensM s).1 0 s.size ∧ NB (tokensM s).1 := by
  unfold tokensM at h ⊢
  split at h
  · cases h
  · rename_i h1
    rw [if_neg h1]
    split at h
    · rename_i h2; exact absurd h h2
    · rename_i h2
      rw [if_neg h2]
      unfold toksM at h2 ⊢
      rw [toksGo_L] at h2 ⊢
      simp only [List.nil_append] at h2 ⊢
      exact ⟨trivial, ((toksL_chain s s.size 0 (Nat.zero_le _) (by omega)).2 (by omega)).2, toksL_nb s s.size 0 (Nat.zero_le _)⟩
theorem tokensM_err {s : ByteArray} (h : (tokensM s).2.2 ≠ 0) : (tokensM s).1 = [] := by
  unfold tokensM at h ⊢
  split at h
  · rename_i h1; rw [if_pos h1]
  · rename_i h1
    rw [if_neg h1]
    split at h
    · rename_i h2; rw [if_pos h2]
    · exact absurd rfl h
/-- the token at i: what stands ahead of it has ended where it begins -/
theorem Chain.at_ : ∀ {l : List Tok} {a b : Nat}, Chain l a b → ∀ (i : Nat) (x : Tok), l[i]? = some x →
    x.2.1 = (if i = 0 then a else ((l[i - 1]?).getD (0, 0, 0)).2.2) ∧ x.2.1 < x.2.2 ∧ x.2.2 ≤ b ∧ 1 ≤ x.1 ∧ x.1 ≤ 12
  | [], _, _, _, i, x, h => by simp at h
  | y :: l, a, b, hc, 0, x, h => by
    simp at h; subst h
    obtain ⟨h1, h2, h3, h4, h5, _⟩ := hc
    exact ⟨by rw [if_pos rfl, h1], by omega, h3, h4, h5⟩
  | y :: l, a, b, hc, i + 1, x, h => by
    simp only [List.getElem?_cons_succ] at h
    obtain ⟨_, _, _, _, _, h6⟩ := hc
    obtain ⟨e1, e2, e3, e4, e5⟩ := h6.at_ i x h
    refine ⟨?_, e2, e3, e4, e5⟩
    rw [if_neg (by omega), e1]
    cases i with
    | zero => rw [if_pos rfl]; rfl
    | succ i => rw [if_neg (by omega)]; rfl
theorem Chain.last : ∀ {l : List Tok} {a b : Nat}, Chain l a b → (if l.length = 0 then a else ((l[l.length - 1]?).getD (0, 0, 0)).2.2) = b
  | [], _, _, h => h
  | [y], a, b, h => h.2.2.2.2.2
  | y :: z :: l, a, b, h => by
    have := Chain.last h.2.2.2.2.2
    rw [if_neg (by simp)] at this ⊢
    exact this

set_option maxHeartbeats 1000000 in
set_option maxRecDepth 1000000 in
theorem lexwhole_any (s : ByteArray) (w : World) (hT : tabs w) (hs : s.size ≤ maxLen) :
    Calls Tryd.prog 5 #[.string s] w fun e w' => e = .returned (.bool true) ∧ Below w.heap.size w w' := by
  have HT := hq hT
  have hsb : s.size ≤ 9223372036854775807 := by unfold maxLen at hs; omega
  have HTK := hq (fun W (hW : tabs W) => tokens4_any s W hW hs)
  have hlen := (tokensM_len s).1
  have hpos := (tokensM_len s).2
  have HW := hq (@tokensM_whole s)
  have HE := hq (@tokensM_err s)
  clear hT hs
  generalize tokensM s = R at *
  obtain ⟨l, n, err⟩ := R
  simp only at hlen hpos
  go_enter Tryd.func5, Tryd.ntmps5
  go_wp2_with fail
  refine (lsmall_any _ HT.o).mono ?_
  rintro e w1 ⟨rfl, hb⟩
  have HT1 := hq (tabs_grow HT.o hb)
  go_wp2_with fail
  refine (HTK.o _ HT1.o).mono ?_
  rintro e w2 ⟨v, rfl, hown, hb2⟩
  have hb12 := below_trans hb hb2
  clear hb hb2 HTK HT HT1
  by_cases he : err = 0
  · have e1 : (err != 0) = false := by rw [he]; rfl
    obtain ⟨h1, h2, h3⟩ := HW.o he
    have h1' : n = s.size := h1
    clear he HW HE h1
    have HCH := hq (fun (i : Nat) (x : Tok) (h : l[i]? = some x) => Chain.at_ h2 i x h)
    have HLA := hq (Chain.last h2)
    have HNB := hq h3
    obtain ⟨vb, vc, rfl⟩ := toks_len hown
    have HOWN := hq hown
    have HN := hq h1'
    clear h2 h3 hown h1'
    have e9 : ((s.size : Int) == (s.size : Int)) = true := beq_self_eq_true _
    go_wp2_with fail
    go_loop [7, 8] (fun a i => ∃ k : Nat, k ≤ l.length ∧ i = .int .i64 (k : Int) ∧ a = .int .i64 (((if k = 0 then 0 else ((l[k - 1]?).getD (0, 0, 0)).2.2 : Nat)) : Int)) (fun _ i => l.length - (intOf i).toNat)
    case atStart => exact ⟨0, Nat.zero_le _, rfl, rfl⟩
    case round =>
      obtain ⟨k, hk, rfl, rfl⟩ := hrel
      by_cases hkl : k < l.length
      · obtain ⟨g, cap, hv, hg1, hg2, hcap, hcm, hfr, hcell⟩ := toks_cell HOWN.o (by omega)
        cases hv
        have hx : l[k]? = some l[k] := List.getElem?_eq_getElem hkl
        obtain ⟨c1, c2, c3⟩ := hcell k _ hx
        obtain ⟨m1, m2, m3, m4, m5⟩ := HCH.o k _ hx
        have HM1 := hq m1
        have HNX : Hq ((if k + 1 = 0 then 0 else ((l[k + 1 - 1]?).getD (0, 0, 0)).2.2 : Nat) = l[k].2.2) := hq (by rw [if_neg (by omega), show k + 1 - 1 = k by omega, hx]; rfl)
        unfold maxLen at hcm
        rw [← HM1.o]
        have HPR : Hq (0 < k → w2.cell? ⟨g, (k - 1) * 3, none⟩ = some (.int .i64 ((((l[k - 1]?).getD (0, 0, 0)).1 : Nat) : Int)) ∧ ¬ (((l[k - 1]?).getD (0, 0, 0)).1 = 1 ∧ l[k].1 = 1)) := hq (fun h0 => by
          have hx1 : l[k - 1]? = some l[k - 1] := List.getElem?_eq_getElem (by omega)
          refine ⟨by rw [hx1]; exact (hcell (k - 1) _ hx1).1, ?_⟩
          rw [hx1]
          have := HNB.o (k - 1) (by omega)
          simpa only [Option.getD_some, show k - 1 + 1 = k by omega] using this)
        clear hcell hx HCH HLA HNB hfr m1
        generalize l[k] = x at *
        obtain ⟨kd, fr, t2⟩ := x
        simp only at c1 c2 c3 m2 m3 m4 m5
        have g1 : ((fr : Int) != (fr : Int)) = false := bne_self_eq_false _
        by_cases h0 : 0 < k
        · obtain ⟨p1, p2⟩ := HPR.o h0
          generalize ((l[k - 1]?).getD (0, 0, 0)).1 = pk at *
          have hz1 : ((k : Int) - 1).toNat = k - 1 := by omega
          by_cases h1 : kd = 1
          · have f1 : ((kd : Int) == 1) = true := by rw [h1]; rfl
            have f2 : ((pk : Int) == 1) = false := beq_eq_false_iff_ne.2 (fun h => p2 ⟨by omega, h1⟩)
            clear h1 p2 HPR
            go_wp2_with fail
            go_round
            case rel => exact ⟨k + 1, by omega, int_eq (by omega), by rw [HNX.o]⟩
            case measure => simp [intOf]; omega
          · have f1 : ((kd : Int) == 1) = false := beq_eq_false_iff_ne.2 (by omega)
            clear h1 p2 HPR p1
            go_wp2_with fail
            go_round
            case rel => exact ⟨k + 1, by omega, int_eq (by omega), by rw [HNX.o]⟩
            case measure => simp [intOf]; omega
        · have h0' : ¬ (0 : Int) < (k : Int) := by omega
          clear HPR
          go_wp2_with fail
          go_round
          case rel => exact ⟨k + 1, by omega, int_eq (by omega), by rw [HNX.o]⟩
          case measure => simp [intOf]; omega
      · obtain rfl : k = l.length := by omega
        have HLA2 := HLA.o
        have HN2 := HN.o
        rw [HLA2, HN2]
        clear HLA2 HN2 HLA HCH HNB HOWN HN
        go_wp2_with fail
        go_ret
        exact ⟨rfl, hb12⟩
  · have e1 : (err != 0) = true := bne_iff_ne.2 he
    have hl0 : l = [] := HE.o he
    clear he HW HE
    subst hl0
    obtain ⟨vb, vc, rfl⟩ := toks_len hown
    clear hown
    go_wp2_with fail
    go_ret
    exact ⟨rfl, hb12⟩
end Go.Proofs.YtinenhnfhdeidaaDoor
