/-
  THE WALKS OF THE LAWS QuoteWrites, QuoteReads.
-/
import Derived.Test.YtpgdmkhcdfhhaaaDoorQSmall
import Derived.Test.YtpgdmkhcdfhhaaaDoorQuoteR
import Derived.Test.YtpgdmkhcdfhhaaaDoorRUnqR
namespace Go.Proofs.YtpgdmkhcdfhhaaaDoor
open Go.RowKit

set_option maxHeartbeats 1000000 in
set_option maxRecDepth 1000000 in
theorem qwrites_any (s : ByteArray) (w : World) (hT : tabs w) (hs : s.size ≤ maxLen) :
    Calls Tryd.prog 9 #[.string s] w fun e w' => e = .returned (.bool true) ∧ Below w.heap.size w w' := by
  have HT := hq hT
  unfold maxLen at hs
  clear hT
  go_enter Tryd.func9, Tryd.ntmps9
  go_wp2_with fail
  refine (qsmall_any _ HT.o).mono ?_
  rintro e w1 ⟨rfl, hb⟩
  have HT1 := hq (tabs_grow HT.o hb)
  by_cases h : 2048 < s.size
  · go_wp2_with fail
    go_ret
    exact ⟨rfl, hb⟩
  · have HQ := hq (quote_post s w1 HT1.o (by omega))
    have HR := hq fun W => rquote_any s W (by omega)
    generalize quoteM s = q at *
    obtain ⟨q1, q2⟩ := q
    have e2 : (q2 == q2) = true := beq_self_eq_true q2
    go_wp2_with fail
    refine HQ.o.mono ?_
    rintro e w2 ⟨rfl, hb2⟩
    replace hb := below_trans hb hb2
    clear hb2
    go_wp2_with fail
    refine (HR.o _).mono ?_
    rintro e w3 ⟨rfl, hb2⟩
    replace hb := below_trans hb hb2
    clear hb2
    go_wp2_with fail
    go_ret
    exact ⟨rfl, hb⟩

set_option maxHeartbeats 1000000 in
set_option maxRecDepth 1000000 in
theorem qreads_any (s : ByteArray) (a : Int) (w : World) (hT : tabs w) (hs : s.size ≤ maxLen) (ha : -9223372036854775808 ≤ a ∧ a ≤ 9223372036854775807) :
    Calls Tryd.prog 10 #[.string s, .int .i64 a] w fun e w' => e = .returned (.bool true) ∧ Below w.heap.size w w' := by
  have HT := hq hT
  have HA := hq ha
  unfold maxLen at hs
  clear hT ha
  go_enter Tryd.func10, Tryd.ntmps10
  go_wp2_with fail
  refine (qsmall_any _ HT.o).mono ?_
  rintro e w1 ⟨rfl, hb⟩
  have HT1 := hq (tabs_grow HT.o hb)
  by_cases h : 2048 < s.size
  · go_wp2_with fail
    go_ret
    exact ⟨rfl, hb⟩
  · have H1 := hq fun W (hW : tabs W) => unquote_any s W hW (by omega)
    have H2 := hq fun W => runquote_any s W (by omega)
    have H3 := hq fun W (hW : tabs W) => end_any s a W hW (by omega) HA.o
    have H4 := hq fun W => rend_any s a W (by omega) HA.o
    generalize unquoteM s = u at *
    generalize endM s a = v at *
    obtain ⟨u1, u2, u3⟩ := u
    obtain ⟨v1, v2⟩ := v
    have e1 : (u3 == u3) = true := beq_self_eq_true u3
    have e2 : (v2 == v2) = true := beq_self_eq_true v2
    have e3 : ((u2 : Int) == (u2 : Int)) = true := beq_self_eq_true _
    have e4 : ((v1 : Int) == (v1 : Int)) = true := beq_self_eq_true _
    go_wp2_with fail
    refine (H1.o _ HT1.o).mono ?_
    rintro e w2 ⟨rfl, hb2⟩
    have HT2 := hq (tabs_grow HT1.o hb2)
    replace hb := below_trans hb hb2
    clear hb2
    go_wp2_with fail
    refine (H2.o _).mono ?_
    rintro e w3 ⟨rfl, hb2⟩
    have HT3 := hq (tabs_grow HT2.o hb2)
    replace hb := below_trans hb hb2
    clear hb2
    go_wp2_with fail
    refine (H3.o _ HT3.o).mono ?_
    rintro e w4 ⟨rfl, hb2⟩
    replace hb := below_trans hb hb2
    clear hb2
    go_wp2_with fail
    refine (H4.o _).mono ?_
    rintro e w5 ⟨rfl, hb2⟩
    replace hb := below_trans hb hb2
    clear hb2
    go_wp2_with fail
    go_ret
    exact ⟨rfl, hb⟩
end Go.Proofs.YtpgdmkhcdfhhaaaDoor
