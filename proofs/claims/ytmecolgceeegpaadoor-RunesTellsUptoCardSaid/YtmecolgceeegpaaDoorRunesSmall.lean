/-
  WALKS: the law's own small case.
-/
import Derived.Test.YtmecolgceeegpaaDoorRunesAt
namespace Go.Proofs.YtmecolgceeegpaaDoor
open Go.RowKit

theorem valid_c1 : valid ⟨#[97, 195, 169]⟩ = (3, true) := by kernel_rfl
theorem valid_c2 : valid ⟨#[97, 255, 98]⟩ = (1, false) := by kernel_rfl
theorem place_c : plc ⟨#[97, 195, 169, 10, 98]⟩ 4 = (2, 1, true) := by kernel_rfl
theorem at_c : atm ⟨#[97, 195, 169, 10, 98]⟩ 2 2 = (5, true) := by kernel_rfl

set_option maxHeartbeats 400000 in
set_option maxRecDepth 1000000 in
theorem small_any (w : World) (hT : tabs w) :
    Calls Tryd.prog 8 #[] w fun e w' => e = .returned (.bool true) ∧ Below w.heap.size w w' := by
  have HT := Lib.hid hT
  clear hT
  go_enter Tryd.func8, Tryd.ntmps8
  go_wp2_with fail
  refine (valid_any _ _ HT.out (by unfold maxLen; decide)).mono ?_
  rw [valid_c1]
  rintro e w1 ⟨rfl, hb1⟩
  have HT1 := Lib.hid (tabs_grow HT.out hb1)
  go_wp2_with fail
  refine (valid_any _ _ HT1.out (by unfold maxLen; decide)).mono ?_
  rw [valid_c2]
  rintro e w2 ⟨rfl, hb2⟩
  have HT2 := Lib.hid (tabs_grow HT1.out hb2)
  go_wp2_with fail
  refine (place_any _ _ _ HT2.out (by decide) (by decide)).mono ?_
  rw [place_c]
  rintro e w3 ⟨rfl, hb3⟩
  go_wp2_with fail
  refine (at_any _ _ _ _ (by decide) (by decide) (by decide)).mono ?_
  rw [at_c]
  rintro e w4 ⟨rfl, hb4⟩
  go_wp2
  go_ret
  have h2 := hb1.trans (hb2.mono hb1.size)
  have h3 := h2.trans (hb3.mono h2.size)
  exact ⟨rfl, h3.trans (hb4.mono h3.size)⟩
end Go.Proofs.YtmecolgceeegpaaDoor
