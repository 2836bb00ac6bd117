/-
  WALKS: the document's own answers of layer 1: Good, Valid.
-/
import Derived.Test.YtmomildkopainaaDoorRefNext
import Derived.BigQuiet
import Derived.Deep.QuietTactic
import Derived.WalkSmall
namespace Go.Proofs.YtmomildkopainaaDoor
open Go.RowKit

theorem nxt_in (s : ByteArray) (p : Nat) (h : p < s.size) : nxt s (p : Int) = (((Utf8.decode s p).1 : Int), ((Utf8.decode s p).2 : Int)) := by
  unfold nxt; rw [if_neg (by omega)]; rfl

set_option maxHeartbeats 400000 in
set_option maxRecDepth 1000000 in
theorem rgood_any (s : ByteArray) (p : Nat) (w : World) (hs : s.size ≤ maxLen) (hp : p < s.size) :
    Calls Tryd.prog 54 #[.string s, .int .i64 p] w fun e w' => e = .returned (.bool (decide (¬ bad s p))) ∧ w = w' := by
  have HS := hq hs
  unfold maxLen at hs
  have hwp := wd_pos s p
  have HN := hq (nxt_in s p hp)
  have HB : Hq (bad s p ↔ (Utf8.decode s p).1 = 65533 ∧ (Utf8.decode s p).2 = 1) := hq Iff.rfl
  unfold wd at hwp
  generalize (Utf8.decode s p).1 = C at *
  generalize (Utf8.decode s p).2 = K at *
  generalize hG : decide (¬ bad s p) = G
  have HG := hq hG
  clear hG
  go_enter Tryd.func54, Tryd.ntmps54
  go_wp2_with fail
  refine (rnext_any s p _ HS.o (by omega)).mono ?_
  rw [HN.o]
  rintro e w' ⟨rfl, rfl⟩
  have hkp : (0 : Int) < (K : Int) := by omega
  by_cases h1 : C = 65533
  · have e1 : ((C : Int) == 65533) = true := by simp [h1]
    by_cases h2 : K = 1
    · have e2 : ((K : Int) == 1) = true := by simp [h2]
      have g : G = false := by rw [← HG.o]; simp [HB.o, h1, h2]
      clear h1 h2
      subst g
      go_wp2
      go_ret
      exact ⟨rfl, rfl⟩
    · have e2 : ((K : Int) == 1) = false := beq_eq_false_iff_ne.2 (by omega)
      have g : G = true := by rw [← HG.o]; simp [HB.o, h2]
      clear h1 h2
      subst g
      go_wp2
      go_ret
      exact ⟨rfl, rfl⟩
  · have e1 : ((C : Int) == 65533) = false := beq_eq_false_iff_ne.2 (by omega)
    have g : G = true := by rw [← HG.o]; simp [HB.o, h1]
    clear h1
    subst g
    go_wp2
    go_ret
    exact ⟨rfl, rfl⟩

end Go.Proofs.YtmomildkopainaaDoor
