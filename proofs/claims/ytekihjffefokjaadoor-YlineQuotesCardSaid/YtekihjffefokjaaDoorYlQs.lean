/-
  THE WALK OF THE LAW YlineQuotes.
-/
import Derived.Test.YtekihjffefokjaaDoorYlRQ
import Derived.Test.YtekihjffefokjaaDoorYlSm
namespace Go.Proofs.YtekihjffefokjaaDoor
open Go.RowKit

set_option maxHeartbeats 4000000 in
set_option maxRecDepth 1000000 in
theorem lquotes_any (t : ByteArray) (a : Int) (s : ByteArray) (w : World) (hT : tabs w) (hm : mx w) (ht : t.size ≤ maxLen) (ha : -9223372036854775808 ≤ a ∧ a ≤ 9223372036854775807) (hs : s.size ≤ maxLen) :
    Calls Tryd.prog 4 #[.string t, .int .i64 a, .string s] w fun e w' => e = .returned (.bool true) ∧ Below w.heap.size w w' := by
  unfold maxLen at ht hs
  have HSM := hq (fun W (hW : tabs W) (hM : mx W) => ysmall_any W hW hM)
  have HT := hq hT
  have HM := hq hm
  clear hT hm
  by_cases hbig : 2048 < t.size ∨ 2048 < s.size
  · have key : (2048 : Int) < (t.size : Int) ∨ (¬ (2048 : Int) < (t.size : Int) ∧ (2048 : Int) < (s.size : Int)) := by omega
    clear hbig
    rcases key with b1 | ⟨b1, b2⟩
    all_goals
      go_enter Tryd.func4, Tryd.ntmps4
      go_wp2_with fail
      refine (HSM.o _ HT.o HM.o).mono ?_
      rintro e w1 ⟨rfl, hb1⟩
      clear HSM
      go_wp2_with fail
      go_ret
      exact ⟨rfl, hb1⟩
  · have b1 : ¬ (2048 : Int) < (t.size : Int) := by omega
    have b2 : ¬ (2048 : Int) < (s.size : Int) := by omega
    have HP := hq (fun W (hW : tabs W) => single_any t a W hW (by omega) ha)
    have HR := hq (fun W => rsingle_any t a W (by omega) ha)
    have HPQ := hq (fun W (hW : tabs W) (hM : mx W) => quoted_any s W hW hM (by omega))
    have HRQ := hq (fun W => rquoted_any s W (by omega))
    clear hbig ha
    generalize sglM t a = X at *
    generalize quotedM s = Q at *
    obtain ⟨xl, xe, xr⟩ := X
    obtain ⟨ql, qr⟩ := Q
    have e1 : ((xe : Int) == (xe : Int)) = true := beq_self_eq_true _
    have e2 : (xr == xr) = true := beq_self_eq_true _
    have e3 : (qr == qr) = true := beq_self_eq_true _
    go_enter Tryd.func4, Tryd.ntmps4
    go_wp2_with fail
    refine (HSM.o _ HT.o HM.o).mono ?_
    rintro e w1 ⟨rfl, hb1⟩
    have HB1 := hq hb1
    clear hb1 HSM
    go_wp2_with fail
    refine (HP.o _ (tabs_grow HT.o HB1.o)).mono ?_
    rintro e w2 ⟨rfl, hb2⟩
    have HB2 := hq (below_trans HB1.o hb2)
    clear hb2 HP HB1
    go_wp2_with fail
    refine (HR.o _).mono ?_
    rintro e w' ⟨rfl, rfl⟩
    clear HR
    go_wp2_with fail
    refine (HPQ.o _ (tabs_grow HT.o HB2.o) (mx_grow HM.o HB2.o)).mono ?_
    rintro e w3 ⟨rfl, hb3⟩
    have HB3 := hq (below_trans HB2.o hb3)
    clear hb3 HPQ HB2
    go_wp2_with fail
    refine (HRQ.o _).mono ?_
    rintro e w4 ⟨rfl, hb4⟩
    have HB4 := hq (below_trans HB3.o hb4)
    clear hb4 HRQ HB3
    go_wp2_with fail
    go_ret
    exact ⟨rfl, HB4.o⟩
end Go.Proofs.YtekihjffefokjaaDoor
