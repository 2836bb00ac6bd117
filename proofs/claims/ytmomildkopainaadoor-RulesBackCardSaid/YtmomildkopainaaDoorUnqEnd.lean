/-
  WALKS: quote.End.
-/
import Derived.Test.YtmomildkopainaaDoorUnqS
namespace Go.Proofs.YtmomildkopainaaDoor
open Go.RowKit

/-- what End answers -/
def endM (s : ByteArray) (a : Int) : Nat × Int := if a < 0 ∨ (s.size : Int) < a then (0, 2) else ((scanM s a.toNat).1, (scanM s a.toNat).2.1)
set_option maxHeartbeats 1000000 in
set_option maxRecDepth 1000000 in
theorem end_any (s : ByteArray) (a : Int) (w : World) (hT : tabs w) (hs : s.size ≤ 1099511627776) (ha : -9223372036854775808 ≤ a ∧ a ≤ 9223372036854775807) :
    Calls Tryd.prog 62 #[.string s, .int .i64 a] w (ScanPost (endM s a) w) := by
  obtain ⟨ha1, ha2⟩ := ha
  by_cases h0 : a < 0
  · have HN : Hq (endM s a = (0, 2)) := hq (by unfold endM; rw [if_pos (.inl h0)])
    generalize endM s a = R at *
    go_enter Tryd.func62, Tryd.ntmps62
    go_wp2_with fail
    go_ret2
    exact ⟨by rw [HN.o]; rfl, Below.refl _ _⟩
  · by_cases h1 : (s.size : Int) < a
    · have HN : Hq (endM s a = (0, 2)) := hq (by unfold endM; rw [if_pos (.inr h1)])
      generalize endM s a = R at *
      go_enter Tryd.func62, Tryd.ntmps62
      go_wp2_with fail
      go_ret2
      exact ⟨by rw [HN.o]; rfl, Below.refl _ _⟩
    · obtain ⟨k, rfl⟩ := Int.eq_ofNat_of_zero_le (Int.not_lt.1 h0)
      have HN : Hq (endM s k = ((scanM s k).1, (scanM s k).2.1)) := hq (by unfold endM; rw [if_neg (by omega)]; rfl)
      have hks : k ≤ s.size := by omega
      have HSC := hq (scan_end s k w hT hks hs)
      generalize endM s k = R at *
      generalize scanM s k = x at *
      clear hT h0 h1
      have h0 : ¬ (k : Int) < 0 := by omega
      have h1 : (k : Int) ≤ (s.size : Int) := by omega
      go_enter Tryd.func62, Tryd.ntmps62
      go_wp2_with fail
      refine HSC.o.mono ?_
      rintro e w1 ⟨rfl, hb1⟩
      clear HSC
      go_wp2_with fail
      go_ret2
      exact ⟨by rw [HN.o]; rfl, hb1⟩
end Go.Proofs.YtmomildkopainaaDoor
