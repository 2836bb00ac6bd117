/-
  WALK: the small cases of layer 3.
-/
import Derived.Test.YtmomildkopainaaDoorUnqV
import Derived.Test.YtmomildkopainaaDoorQuoteQ
namespace Go.Proofs.YtmomildkopainaaDoor
open Go.RowKit

def QuotePost (q : Bs × Int) (w : World) (e : Ending) (w' : World) : Prop := e = .returned (.tuple #[.string (st q.1), .int .i64 q.2]) ∧ Below w.heap.size w w'
theorem quote_post (s : ByteArray) (w : World) (hT : tabs w) (hs : s.size ≤ 1099511627776) : Calls Tryd.prog 60 #[.string s] w (QuotePost (quoteM s) w) := quote_any s w hT hs
theorem qs1 : quoteM ⟨#[97, 10, 34]⟩ = ([34, 97, 92, 110, 92, 34, 34], 0) := by kernel_rfl
theorem qs2 : unquoteM ⟨#[34, 92, 117, 100, 56, 51, 100, 92, 117, 100, 101, 48, 48, 34]⟩ = ([240, 159, 152, 128], 14, 0) := by kernel_rfl
theorem qs3 : unquoteM ⟨#[34, 97, 92, 120, 34]⟩ = ([], 2, 2) := by kernel_rfl
theorem qs4 : unquoteM ⟨#[34, 92, 117, 100, 56, 51, 100, 34]⟩ = ([], 1, 2) := by kernel_rfl
theorem quote_lit {R : Bs × Int} (a : Array UInt8) (h : quoteM ⟨a⟩ = R) (hs : a.size ≤ 1000) (w : World) (hT : tabs w) : Calls Tryd.prog 60 #[.string ⟨a⟩] w (QuotePost R w) := by
  rw [← h]; exact quote_post ⟨a⟩ w hT (Nat.le_trans hs (by omega))
theorem unquote_lit {R : Bs × Nat × Int} (a : Array UInt8) (h : unquoteM ⟨a⟩ = R) (hs : a.size ≤ 1000) (w : World) (hT : tabs w) : Calls Tryd.prog 63 #[.string ⟨a⟩] w (UnqPost R w) := by
  rw [← h]; exact unquote_any ⟨a⟩ w hT (Nat.le_trans hs (by omega))

end Go.Proofs.YtmomildkopainaaDoor
