/-
  WALKS: lex.sign, lex.word, lex.run.
-/
import Derived.Test.YtleabaldjlbnlaaDoorLexM
import Derived.Test.YtleabaldjlbnlaaDoorShelf
namespace Go.Proofs.YtleabaldjlbnlaaDoor
open Go.RowKit

set_option maxHeartbeats 400000 in
theorem sign4_any (c : Nat) (w : World) : Calls Tryd.prog 48 #[.int .u8 (c : Int)] w fun e w' => e = .returned (.int .i64 (signM c : Int)) ∧ w = w' := by
  have HN : Hq (signM c = if c = 123 then 2 else if c = 125 then 3 else if c = 91 then 4 else if c = 93 then 5 else if c = 44 then 6 else if c = 58 then 7 else 0) := hq rfl
  generalize signM c = R at *
  by_cases h1 : c = 123
  · have HN2 := hq (HN.o.trans (if_pos h1))
    have e1 : ((c : Int) == 123) = true := by rw [h1]; rfl
    clear HN h1
    go_enter Tryd.func48, Tryd.ntmps48
    go_wp2_with fail
    go_ret
    exact ⟨by rw [HN2.o]; rfl, rfl⟩
  · have HN2 := hq (HN.o.trans (if_neg h1))
    have e1 : ((c : Int) == 123) = false := beq_eq_false_iff_ne.2 (by omega)
    clear HN h1
    by_cases h1 : c = 125
    · have HN := hq (HN2.o.trans (if_pos h1))
      have e2 : ((c : Int) == 125) = true := by rw [h1]; rfl
      clear HN2 h1
      go_enter Tryd.func48, Tryd.ntmps48
      go_wp2_with fail
      go_ret
      exact ⟨by rw [HN.o]; rfl, rfl⟩
    · have HN := hq (HN2.o.trans (if_neg h1))
      have e2 : ((c : Int) == 125) = false := beq_eq_false_iff_ne.2 (by omega)
      clear HN2 h1
      by_cases h1 : c = 91
      · have HN2 := hq (HN.o.trans (if_pos h1))
        have e3 : ((c : Int) == 91) = true := by rw [h1]; rfl
        clear HN h1
        go_enter Tryd.func48, Tryd.ntmps48
        go_wp2_with fail
        go_ret
        exact ⟨by rw [HN2.o]; rfl, rfl⟩
      · have HN2 := hq (HN.o.trans (if_neg h1))
        have e3 : ((c : Int) == 91) = false := beq_eq_false_iff_ne.2 (by omega)
        clear HN h1
        by_cases h1 : c = 93
        · have HN := hq (HN2.o.trans (if_pos h1))
          have e4 : ((c : Int) == 93) = true := by rw [h1]; rfl
          clear HN2 h1
          go_enter Tryd.func48, Tryd.ntmps48
          go_wp2_with fail
          go_ret
          exact ⟨by rw [HN.o]; rfl, rfl⟩
        · have HN := hq (HN2.o.trans (if_neg h1))
          have e4 : ((c : Int) == 93) = false := beq_eq_false_iff_ne.2 (by omega)
          clear HN2 h1
          by_cases h1 : c = 44
          · have HN2 := hq (HN.o.trans (if_pos h1))
            have e5 : ((c : Int) == 44) = true := by rw [h1]; rfl
            clear HN h1
            go_enter Tryd.func48, Tryd.ntmps48
            go_wp2_with fail
            go_ret
            exact ⟨by rw [HN2.o]; rfl, rfl⟩
          · have HN2 := hq (HN.o.trans (if_neg h1))
            have e5 : ((c : Int) == 44) = false := beq_eq_false_iff_ne.2 (by omega)
            clear HN h1
            by_cases h1 : c = 58
            · have HN := hq (HN2.o.trans (if_pos h1))
              have e6 : ((c : Int) == 58) = true := by rw [h1]; rfl
              clear HN2 h1
              go_enter Tryd.func48, Tryd.ntmps48
              go_wp2_with fail
              go_ret
              exact ⟨by rw [HN.o]; rfl, rfl⟩
            · have HN := hq (HN2.o.trans (if_neg h1))
              have e6 : ((c : Int) == 58) = false := beq_eq_false_iff_ne.2 (by omega)
              clear HN2 h1
              go_enter Tryd.func48, Tryd.ntmps48
              go_wp2_with fail
              go_ret
              exact ⟨by rw [HN.o]; rfl, rfl⟩

theorem lit_eq (t : ByteArray) (l : Bs) : (t.toList == l) = decide (t.data.toList = l) := by
  rw [ByteArray.toList_eq, Bool.eq_iff_iff, beq_iff_eq, decide_eq_true_iff]
set_option maxHeartbeats 400000 in
theorem word4_any (t : ByteArray) (w : World) : Calls Tryd.prog 53 #[.string t] w fun e w' => e = .returned (.int .i64 (wordM t.data.toList : Int)) ∧ w = w' := by
  have HN : Hq (wordM t.data.toList = if t.data.toList = [116, 114, 117, 101] then 10 else if t.data.toList = [102, 97, 108, 115, 101] then 11 else if t.data.toList = [110, 117, 108, 108] then 12 else 0) := hq rfl
  generalize wordM t.data.toList = R at *
  have e1 := lit_eq t [116, 114, 117, 101]
  have e2 := lit_eq t [102, 97, 108, 115, 101]
  have e3 := lit_eq t [110, 117, 108, 108]
  by_cases h1 : t.data.toList = [116, 114, 117, 101]
  · have HN2 := hq (HN.o.trans (if_pos h1))
    rw [decide_eq_true h1] at e1
    clear HN h1 e2 e3
    go_enter Tryd.func53, Tryd.ntmps53
    go_wp2_with fail
    go_ret
    exact ⟨by rw [HN2.o]; rfl, rfl⟩
  · have HN2 := hq (HN.o.trans (if_neg h1))
    rw [decide_eq_false h1] at e1
    clear HN h1
    by_cases h1 : t.data.toList = [102, 97, 108, 115, 101]
    · have HN := hq (HN2.o.trans (if_pos h1))
      rw [decide_eq_true h1] at e2
      clear HN2 h1 e3
      go_enter Tryd.func53, Tryd.ntmps53
      go_wp2_with fail
      go_ret
      exact ⟨by rw [HN.o]; rfl, rfl⟩
    · have HN := hq (HN2.o.trans (if_neg h1))
      rw [decide_eq_false h1] at e2
      clear HN2 h1
      by_cases h1 : t.data.toList = [110, 117, 108, 108]
      · have HN2 := hq (HN.o.trans (if_pos h1))
        rw [decide_eq_true h1] at e3
        clear HN h1
        go_enter Tryd.func53, Tryd.ntmps53
        go_wp2_with fail
        go_ret
        exact ⟨by rw [HN2.o]; rfl, rfl⟩
      · have HN2 := hq (HN.o.trans (if_neg h1))
        rw [decide_eq_false h1] at e3
        clear HN h1
        go_enter Tryd.func53, Tryd.ntmps53
        go_wp2_with fail
        go_ret
        exact ⟨by rw [HN2.o]; rfl, rfl⟩

/-- the bytes of S are those of which q tells -/
def SetIs (S : ByteArray) (q : Nat → Bool) : Prop := ∀ c : Nat, c < 256 → (decide (0 ≤ Lib.indexByte S.data.toList ((c : Int)).toNat.toUInt8) = q c)
abbrev setBlank : ByteArray := ⟨#[32, 9, 10, 13]⟩
abbrev setNum : ByteArray := ⟨#[45, 43, 46, 48, 49, 50, 51, 52, 53, 54, 55, 56, 57, 101, 69]⟩
abbrev setLet : ByteArray := ⟨#[97, 98, 99, 100, 101, 102, 103, 104, 105, 106, 107, 108, 109, 110, 111, 112, 113, 114, 115, 116, 117, 118, 119, 120, 121, 122]⟩
theorem setBlank_is : SetIs setBlank isBlank := by unfold SetIs; decide +kernel
theorem setNum_is : SetIs setNum isNum := by unfold SetIs; decide +kernel
theorem setLet_is : SetIs setLet isLet := by unfold SetIs; decide +kernel
theorem index_any (S : ByteArray) (q : Nat → Bool) (h : SetIs S q) (c : Nat) (hc : c < 256) : ∃ I : Int, (∀ W, Calls Tryd.prog 49 #[.string S, .int .u8 (c : Int)] W fun e w' => e = .returned (.int .i64 I) ∧ W = w') ∧ (q c = true → 0 ≤ I) ∧ (q c = false → I < 0) := by
  refine ⟨_, fun W => (Tryd.strings_IndexByte S (c : Int) W).mono fun e w' hh => ⟨hh.1, hh.2.symm⟩, fun hq1 => ?_, fun hq1 => ?_⟩
  · have := h c hc
    rw [hq1] at this
    exact of_decide_eq_true this
  · have := h c hc
    rw [hq1] at this
    have := of_decide_eq_false this
    omega

set_option maxHeartbeats 400000 in
set_option maxRecDepth 1000000 in
theorem run4_any (S : ByteArray) (q : Nat → Bool) (hS : SetIs S q) (s : ByteArray) (p : Nat) (w : World) (hs : s.size ≤ 1099511627776) (hp : p ≤ s.size) :
    Calls Tryd.prog 50 #[.string s, .int .i64 (p : Int), .string S] w fun e w' => e = .returned (.int .i64 (runTo s q p : Int)) ∧ w = w' := by
  have HI := hq (index_any S q hS)
  have HS := hq (fun k h1 h2 => @runTo_step s q k h1 h2)
  have HO := hq (fun k h1 => @runTo_stop s q k h1)
  have HE := hq (fun k h1 => @runTo_end s q k h1)
  generalize hR : runTo s q p = R
  have HR := hq hR
  clear hR hS
  go_enter Tryd.func50, Tryd.ntmps50
  go_wp2_with fail
  go_loop [1] (fun i => ∃ k : Nat, k ≤ s.size ∧ i = .int .i64 (k : Int) ∧ Hq (runTo s q k = R)) (fun i => s.size - (intOf i).toNat)
  case atStart => exact ⟨p, hp, rfl, HR⟩
  case round =>
    obtain ⟨k, hk, rfl, hr⟩ := hrel
    clear HR
    by_cases hks : k < s.size
    · have y0 : ((s[k]'hks).toNat : Int) = (byt s k : Int) := by rw [byt_eq s k hks]
      obtain ⟨I, hI, i1, i2⟩ := HI.o (byt s k) (byt_lt s k)
      have HC := hq hI
      have HS2 := hq (HS.o k hks)
      have HO2 := hq (HO.o k)
      clear hI HS HO HE HI
      generalize byt s k = c at *
      cases hqc : q c with
      | true =>
        have hi := i1 hqc
        have HN : Hq (runTo s q (k + 1) = R) := hq (by rw [← HS2.o hqc]; exact hr.o)
        clear i1 i2 hqc HS2 HO2 hr
        go_wp2_with fail
        refine (HC.o _).mono ?_
        rintro e w' ⟨rfl, hw⟩
        obtain rfl := hw
        go_wp2_with fail
        go_round
        case rel => exact ⟨k + 1, by omega, int_eq (by omega), HN⟩
        case measure => simp [intOf]; omega
      | false =>
        have hi := i2 hqc
        have HN : Hq (k = R) := hq (by rw [← HO2.o hqc]; exact hr.o)
        clear i1 i2 hqc HS2 HO2 hr
        go_wp2_with fail
        refine (HC.o _).mono ?_
        rintro e w' ⟨rfl, hw⟩
        obtain rfl := hw
        go_wp2_with fail
        go_ret
        exact ⟨by rw [← HN.o]; rfl, rfl⟩
    · obtain rfl : k = s.size := by omega
      have HN : Hq (s.size = R) := hq (by rw [← HE.o s.size (Nat.le_refl _)]; exact hr.o)
      clear HI HS HO HE hr
      go_wp2_with fail
      go_ret
      exact ⟨by rw [← HN.o]; rfl, rfl⟩
end Go.Proofs.YtleabaldjlbnlaaDoor
