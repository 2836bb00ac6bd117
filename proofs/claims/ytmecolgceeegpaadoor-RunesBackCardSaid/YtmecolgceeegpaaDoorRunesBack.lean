/-
  THE WALK OF THE LAW RunesBack: Place and At are each other's.
-/
import Derived.Test.YtmecolgceeegpaaDoorRunesSmall
namespace Go.Proofs.YtmecolgceeegpaaDoor
open Go.RowKit

theorem back_at (s : ByteArray) (p : Nat) (h : Begins s p) : atm s (1 + lfs s p) (1 + cols s p s.size (lst s p)) = ((p : Int), true) := by
  obtain ⟨c, hc⟩ := begins_walk s h
  have hp := begins_le s h
  obtain ⟨t, ht, hpt⟩ := lns_at s p hp
  have hcol := cols_walk s p p c (lst s p) s.size hc hp (Nat.le_refl _) (by omega)
  rw [hcol]
  have hlen : lfs s p < (lns s).length := (List.getElem?_eq_some_iff.1 ht).1
  unfold atm
  rw [if_neg (by omega), show ((1 : Int) + (lfs s p : Int) - 1).toNat = lfs s p by omega, show ((1 : Int) + (c : Int) - 1).toNat = c by omega, List.getD_eq_getElem?_getD, ht]
  simp only [Option.getD_some]
  rw [walk_more s p t p hpt c _ hc]
  rfl

theorem place_at (s : ByteArray) (line col x : Int) (h : atm s line col = (x, true)) :
    0 ≤ x ∧ x ≤ s.size ∧ (1 ≤ line ∧ line ≤ s.size + 1) ∧ ∃ l c : Int, plc s x = (l, c, true) ∧ ((l = line ∧ c = col) ∨ (l = line + 1 ∧ c = 1)) := by
  unfold atm at h
  split at h
  · simp at h
  · rename_i hn
    obtain ⟨⟨f, t⟩, hft⟩ : ∃ y, (lns s)[(line - 1).toNat]? = some y := ⟨_, List.getElem?_eq_getElem (by omega)⟩
    rw [List.getD_eq_getElem?_getD, hft] at h
    simp only [Option.getD_some] at h
    cases hw : walkTo s t (col - 1).toNat f with
    | none => rw [hw] at h; simp [atw] at h
    | some q =>
      rw [hw] at h
      simp only [atw, Prod.mk.injEq, and_true] at h
      subst h
      obtain ⟨e1, e2, e3, e4⟩ := lns_entry s _ f t hft
      have hq : q ≤ t := by
        refine walk_le s t q ?_ e2 _ _ hw e1
        rcases e4 with ⟨_, _, hb, _⟩ | ⟨_, hb, _⟩
        · right; omega
        · left; exact hb
      have hcol := cols_walk s t q _ f s.size hw e2 hq (by omega)
      have hge := walk_ge s t q _ f hw
      have hll : (lns s).length ≤ s.size + 1 := by rw [lns_len]; have := lfs_le s s.size; omega
      refine ⟨by omega, by omega, ⟨by omega, by omega⟩, ?_⟩
      unfold plc
      rw [if_neg (by omega), Int.toNat_natCast]
      refine ⟨_, _, rfl, ?_⟩
      by_cases hqt : q < t
      · obtain ⟨g1, g2⟩ := e3 q (by omega) hqt
        left
        rw [g1, g2, hcol]
        omega
      · obtain rfl : q = t := by omega
        rcases e4 with ⟨_, _, _, g1, g2⟩ | ⟨_, _, g1, g2⟩
        · right
          rw [g1, g2]
          have h0 := cols_walk s q q 0 q s.size rfl e2 (Nat.le_refl _) (by omega)
          rw [h0]
          omega
        · left
          rw [g1, g2, hcol]
          omega

theorem atm_none (s : ByteArray) (line col x : Int) (h : atm s line col = (x, false)) : x = 0 := by
  unfold atm at h
  split at h
  · simp at h; exact h.symm
  · cases hw : walkTo s ((lns s).getD (line - 1).toNat (0, 0)).2 (col - 1).toNat ((lns s).getD (line - 1).toNat (0, 0)).1 with
    | none => rw [hw] at h; simp [atw] at h; exact h.symm
    | some q => rw [hw] at h; simp [atw] at h

theorem cols_le (s : ByteArray) (q : Nat) : ∀ f p, cols s q f p ≤ f
  | 0, _ => Nat.le_refl _
  | f + 1, p => by
    rw [cols_succ]
    have := cols_le s q f (p + wd s p)
    split <;> omega

def Hq (p : Prop) : Prop := True → p
theorem Hq.o {p : Prop} (h : Hq p) : p := h trivial
theorem hq {p : Prop} (h : p) : Hq p := fun _ => h

set_option maxHeartbeats 1000000 in
set_option maxRecDepth 1000000 in
theorem back_any (s : ByteArray) (line col : Int) (w : World) (hT : tabs w) (hs : s.size ≤ maxLen) (hl : -9223372036854775808 ≤ line ∧ line ≤ 9223372036854775807) (hc : -9223372036854775808 ≤ col ∧ col ≤ 9223372036854775807) :
    Calls Tryd.prog 6 #[.string s, .int .i64 line, .int .i64 col] w fun e w' => e = .returned (.bool true) ∧ Below w.heap.size w w' := by
  have HT := hq hT
  clear hT
  have HS := hq hs
  unfold maxLen at hs
  have HL := hq hl
  have HC := hq hc
  obtain ⟨hl1, hl2⟩ := hl
  clear hc
  go_enter Tryd.func6, Tryd.ntmps6
  go_wp2_with fail
  refine (small_any _ HT.o).mono ?_
  rintro e w1 ⟨rfl, hb1⟩
  have HT1 := hq (tabs_grow HT.o hb1)
  by_cases hbig : 1024 < s.size
  · go_wp2
    go_ret
    exact ⟨rfl, hb1⟩
  · go_wp2
    go_loopw [8] (fun p wr => ∃ pos : Nat, p = .int .i64 pos ∧ Below w1.heap.size w1 wr ∧ Hq (Begins s pos)) (fun p _ => s.size + 1 - (intOf p).toNat)
    case atStart => exact ⟨0, rfl, Below.refl _ _, hq .zero⟩
    case round =>
      obtain ⟨pos, rfl, hbr, hbeg⟩ := hrel
      have hp := begins_le s hbeg.o
      have HTr := hq (tabs_grow HT1.o hbr)
      have hlf := lfs_le s pos
      have hco := cols_le s pos s.size (lst s pos)
      have HP : Hq (plc s pos = (1 + (lfs s pos : Int), 1 + (cols s pos s.size (lst s pos) : Int), true)) := hq (by unfold plc; rw [if_neg (by omega)]; rfl)
      have HA := hq (back_at s pos hbeg.o)
      generalize lfs s pos = L at *
      generalize cols s pos s.size (lst s pos) = C at *
      go_wp2_with fail
      refine (place_any s pos _ HTr.o (by omega) (by omega)).mono ?_
      rw [HP.o]
      rintro e w2 ⟨rfl, hb2⟩
      have hb12 := hbr.trans (hb2.mono hbr.size)
      have HTr2 := hq (tabs_grow HT1.o hb12)
      go_wp2_with fail
      refine (at_any s (1 + (L : Int)) (1 + (C : Int)) _ (by omega) (by omega) (by omega)).mono ?_
      rw [HA.o]
      rintro e w3 ⟨rfl, hb3⟩
      have hb13 := hb12.trans (hb3.mono hb12.size)
      have HTr3 := hq (tabs_grow HT1.o hb13)
      have e1 : ((pos : Int) != (pos : Int)) = false := by simp
      go_wp2_with fail
      refine (next_any s pos _ HTr3.o HS.o (by omega)).mono ?_
      by_cases hlt : pos < s.size
      · have HN : Hq (nxt s pos = (((Utf8.decode s pos).1 : Int), ((Utf8.decode s pos).2 : Int))) := hq (by unfold nxt; rw [if_neg (by omega)]; rfl)
        have hwp := wd_pos s pos
        have hwl := wd_le s pos hlt
        have HB2 : Hq (Begins s (pos + (Utf8.decode s pos).2)) := hq (Begins.step hbeg.o hlt)
        unfold wd at hwp hwl
        rw [HN.o]
        clear HN
        generalize (Utf8.decode s pos).1 = R at *
        generalize (Utf8.decode s pos).2 = K at *
        rintro e w4 ⟨rfl, hb4⟩
        have hb14 := hb13.trans (hb4.mono hb13.size)
        have e2 : ((K : Int) == 0) = false := by simp; omega
        go_wp2
        go_roundw
        case rel => exact ⟨pos + K, by go_num, hb14, HB2⟩
        case measure => simp [intOf]; omega
      · obtain rfl : pos = s.size := by omega
        have HN : Hq (nxt s (s.size : Int) = (0, 0)) := hq (by unfold nxt; rw [if_pos (by omega)])
        rw [HN.o]
        rintro e w4 ⟨rfl, hb4⟩
        have hb14 := hb13.trans (hb4.mono hb13.size)
        have HTr4 := hq (tabs_grow HT1.o hb14)
        go_wp2_with fail
        refine (at_any s line col _ (by omega) HL.o HC.o).mono ?_
        generalize hat : atm s line col = V
        obtain ⟨x, b⟩ := V
        rintro e w5 ⟨rfl, hb5⟩
        have hb15 := hb14.trans (hb5.mono hb14.size)
        have HTr5 := hq (tabs_grow HT1.o hb15)
        have e4 : ((s.size : Int) == (s.size : Int)) = true := by simp
        cases b with
        | false =>
          have hx := atm_none s line col x hat
          subst hx
          have HAT := hq hat
          clear hat
          go_wp2
          go_ret
          exact ⟨rfl, hb1.trans (hb15.mono hb1.size)⟩
        | true =>
          obtain ⟨x1, x2, ⟨y1, y2⟩, l, c, hpl, hor⟩ := place_at s line col x hat
          have HAT := hq hat
          have HPL := hq hpl
          clear hat hpl
          have HF : Hq (l = line ∧ c = col ∨ l = line + 1 ∧ c = 1) := hq hor
          clear hor
          go_wp2_with fail
          refine (place_any s x _ HTr5.o (by omega) (by omega)).mono ?_
          rw [HPL.o]
          rintro e w6 ⟨rfl, hb6⟩
          have hb16 := hb15.trans (hb6.mono hb15.size)
          rcases HF.o with ⟨rfl, rfl⟩ | ⟨rfl, rfl⟩
          · have g1 : (l == l + 1) = false := by simp; omega
            have g2 : (l == l) = true := by simp
            have g3 : (c == c) = true := by simp
            go_wp2
            go_ret
            exact ⟨rfl, hb1.trans (hb16.mono hb1.size)⟩
          · have g1 : (line + 1 == line) = false := beq_eq_false_iff_ne.2 (by omega)
            have g2 : (line + 1 == line + 1) = true := by simp
            go_wp2
            go_ret
            exact ⟨rfl, hb1.trans (hb16.mono hb1.size)⟩
end Go.Proofs.YtmecolgceeegpaaDoor
