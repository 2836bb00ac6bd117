/-
  WALKS: the document's own answers of layer 1: Good, Valid.
-/
import Derived.Test.YtpgdmkhcdfhhaaaDoorRefNext
import Derived.BigQuiet
import Derived.Deep.QuietTactic
import Derived.WalkSmall
namespace Go.Proofs.YtpgdmkhcdfhhaaaDoor
open Go.RowKit

theorem nxt_in (s : ByteArray) (p : Nat) (h : p < s.size) : nxt s (p : Int) = (((Utf8.decode s p).1 : Int), ((Utf8.decode s p).2 : Int)) := by
  unfold nxt; rw [if_neg (by omega)]; rfl

set_option maxHeartbeats 400000 in
set_option maxRecDepth 1000000 in
theorem rgood_any (s : ByteArray) (p : Nat) (w : World) (hs : s.size ≤ maxLen) (hp : p < s.size) :
    Calls Tryd.prog 78 #[.string s, .int .i64 p] w fun e w' => e = .returned (.bool (decide (¬ bad s p))) ∧ w = w' := by
  have HS := hq hs
  unfold maxLen at hs
  have hwp := wd_pos s p
  have HN := hq (nxt_in s p hp)
  have HB : Hq (bad s p ↔ (Utf8.decode s p).1 = 65533 ∧ (Utf8.decode s p).2 = 1) := hq Iff.rfl
  unfold wd at hwp
  generalize (Utf8.decode s p).1 = C at *
  generalize (Utf8.decode s p).2 = K at *
  generalize hG : decide (¬ bad s p) = G
  have HG := hq hG
  clear hG
  go_enter Tryd.func78, Tryd.ntmps78
  go_wp2_with fail
  refine (rnext_any s p _ HS.o (by omega)).mono ?_
  rw [HN.o]
  rintro e w' ⟨rfl, rfl⟩
  have hkp : (0 : Int) < (K : Int) := by omega
  by_cases h1 : C = 65533
  · have e1 : ((C : Int) == 65533) = true := by simp [h1]
    by_cases h2 : K = 1
    · have e2 : ((K : Int) == 1) = true := by simp [h2]
      have g : G = false := by rw [← HG.o]; simp [HB.o, h1, h2]
      clear h1 h2
      subst g
      go_wp2
      go_ret
      exact ⟨rfl, rfl⟩
    · have e2 : ((K : Int) == 1) = false := beq_eq_false_iff_ne.2 (by omega)
      have g : G = true := by rw [← HG.o]; simp [HB.o, h2]
      clear h1 h2
      subst g
      go_wp2
      go_ret
      exact ⟨rfl, rfl⟩
  · have e1 : ((C : Int) == 65533) = false := beq_eq_false_iff_ne.2 (by omega)
    have g : G = true := by rw [← HG.o]; simp [HB.o, h1]
    clear h1
    subst g
    go_wp2
    go_ret
    exact ⟨rfl, rfl⟩

set_option maxHeartbeats 400000 in
set_option maxRecDepth 1000000 in
theorem rvalid_any (s : ByteArray) (w : World) (hs : s.size ≤ maxLen) :
    Calls Tryd.prog 54 #[.string s] w fun e w' => e = .returned (.tuple #[.int .i64 (valid s).1, .bool (valid s).2]) ∧ w = w' := by
  have HS := hq hs
  unfold maxLen at hs
  generalize hV : valid s = V
  have HV := hq hV
  clear hV
  go_enter Tryd.func54, Tryd.ntmps54
  go_wp2
  go_loop [4] (fun a => ∃ (pos f : Nat), a = .int .i64 pos ∧ pos ≤ s.size ∧ Hq (vld s f pos = V) ∧ s.size ≤ pos + f) (fun a => s.size - (intOf a).toNat)
  case atStart => exact ⟨0, s.size, rfl, by omega, hq HV.o, by omega⟩
  case round =>
    obtain ⟨pos, f, rfl, hp, hv, hf⟩ := hrel
    by_cases hlt : pos < s.size
    · obtain ⟨f, rfl⟩ : ∃ g, f = g + 1 := ⟨f - 1, by omega⟩
      have hwp := wd_pos s pos
      have hwl := wd_le s pos hlt
      have HN := hq (nxt_in s pos hlt)
      have HBAD : Hq (bad s pos → vld s (f + 1) pos = (pos, false)) := hq (fun h => by rw [vld, if_pos hlt, if_pos h])
      have HGOOD : Hq (¬ bad s pos → vld s (f + 1) pos = vld s f (pos + (Utf8.decode s pos).2)) := hq (fun h => by rw [vld, if_pos hlt, if_neg h]; rfl)
      unfold wd at hwp hwl
      generalize (Utf8.decode s pos).1 = C at *
      generalize (Utf8.decode s pos).2 = K at *
      go_wp2_with fail
      refine (rgood_any s pos _ HS.o hlt).mono ?_
      generalize hG : decide (¬ bad s pos) = G
      rintro e w' ⟨rfl, rfl⟩
      cases G with
      | false =>
        have hb : bad s pos := by simpa using hG
        have hr : (pos, false) = V := (HBAD.o hb).symm.trans hv.o
        have HR := hq hr
        clear hG hb hr
        go_wp2
        go_ret2
        rw [← HR.o]
        exact ⟨rfl, rfl⟩
      | true =>
        have hb : ¬ bad s pos := by simpa using hG
        have HR := hq ((HGOOD.o hb).symm.trans hv.o)
        clear hG hb
        go_wp2_with fail
        refine (rnext_any s pos _ HS.o (by omega)).mono ?_
        rw [HN.o]
        rintro e w' ⟨rfl, rfl⟩
        go_wp2
        go_round
        case rel => exact ⟨pos + K, f, by go_num, by omega, HR, by omega⟩
        case measure => simp [intOf]; omega
    · have hr := hv.o
      rw [vld_end s f pos hlt] at hr
      have HR := hq hr
      clear hr
      go_wp2
      go_ret2
      rw [← HR.o]
      exact ⟨rfl, rfl⟩
end Go.Proofs.YtpgdmkhcdfhhaaaDoor
