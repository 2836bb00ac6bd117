/-
  WALK: the small cases of layer 3.
-/
import Derived.Test.YtpgdmkhcdfhhaaaDoorUnqV
import Derived.Test.YtpgdmkhcdfhhaaaDoorQuoteQ
namespace Go.Proofs.YtpgdmkhcdfhhaaaDoor
open Go.RowKit

def QuotePost (q : Bs × Int) (w : World) (e : Ending) (w' : World) : Prop := e = .returned (.tuple #[.string (st q.1), .int .i64 q.2]) ∧ Below w.heap.size w w'
theorem quote_post (s : ByteArray) (w : World) (hT : tabs w) (hs : s.size ≤ 1099511627776) : Calls Tryd.prog 30 #[.string s] w (QuotePost (quoteM s) w) := quote_any s w hT hs
theorem qs1 : quoteM ⟨#[97, 10, 34]⟩ = ([34, 97, 92, 110, 92, 34, 34], 0) := by kernel_rfl
theorem qs2 : unquoteM ⟨#[34, 92, 117, 100, 56, 51, 100, 92, 117, 100, 101, 48, 48, 34]⟩ = ([240, 159, 152, 128], 14, 0) := by kernel_rfl
theorem qs3 : unquoteM ⟨#[34, 97, 92, 120, 34]⟩ = ([], 2, 2) := by kernel_rfl
theorem qs4 : unquoteM ⟨#[34, 92, 117, 100, 56, 51, 100, 34]⟩ = ([], 1, 2) := by kernel_rfl
theorem quote_lit {R : Bs × Int} (a : Array UInt8) (h : quoteM ⟨a⟩ = R) (hs : a.size ≤ 1000) (w : World) (hT : tabs w) : Calls Tryd.prog 30 #[.string ⟨a⟩] w (QuotePost R w) := by
  rw [← h]; exact quote_post ⟨a⟩ w hT (Nat.le_trans hs (by omega))
theorem unquote_lit {R : Bs × Nat × Int} (a : Array UInt8) (h : unquoteM ⟨a⟩ = R) (hs : a.size ≤ 1000) (w : World) (hT : tabs w) : Calls Tryd.prog 32 #[.string ⟨a⟩] w (UnqPost R w) := by
  rw [← h]; exact unquote_any ⟨a⟩ w hT (Nat.le_trans hs (by omega))

set_option maxHeartbeats 1000000 in
set_option maxRecDepth 1000000 in
theorem qsmall_any (w : World) (hT : tabs w) : Calls Tryd.prog 29 #[] w fun e w' => e = .returned (.bool true) ∧ Below w.heap.size w w' := by
  have HT := hq hT
  clear hT
  go_enter Tryd.func29, Tryd.ntmps29
  go_wp2_with fail
  refine (quote_lit _ qs1 (by decide) _ HT.o).mono ?_
  rintro e w1 ⟨rfl, hb⟩
  have HT1 := hq (tabs_grow HT.o hb)
  go_wp2_with fail
  refine (unquote_lit _ qs2 (by decide) _ HT1.o).mono ?_
  rintro e w2 ⟨rfl, hb2⟩
  have HT2 := hq (tabs_grow HT1.o hb2)
  replace hb := below_trans hb hb2
  clear hb2
  go_wp2_with fail
  refine (unquote_lit _ qs3 (by decide) _ HT2.o).mono ?_
  rintro e w3 ⟨rfl, hb2⟩
  have HT3 := hq (tabs_grow HT2.o hb2)
  replace hb := below_trans hb hb2
  clear hb2
  go_wp2_with fail
  refine (unquote_lit _ qs4 (by decide) _ HT3.o).mono ?_
  rintro e w4 ⟨rfl, hb2⟩
  replace hb := below_trans hb hb2
  clear hb2
  go_wp2_with fail
  go_ret
  exact ⟨rfl, hb⟩
end Go.Proofs.YtpgdmkhcdfhhaaaDoor
