/-
  WHAT EACH CARD OF LAYER 2 SHARES: the witness's world with the laid tables; a number read, and written back.
-/
import Derived.Test.YtpgdmkhcdfhhaaaDoorCards
import Derived.Test.YtpgdmkhcdfhhaaaDoorTie
import Derived.Test.YtpgdmkhcdfhhaaaDoorShelf
import Derived.Test.YtpgdmkhcdfhhaaaDoorNumMath
import Derived.WalkKit
import Derived.ProofKit
import Derived.OpenShut
import Derived.ShutString
import Derived.PinnedBridge
import Derived.Deep.DeepHandedRow
import Derived.Lib.LaidIn
import Derived.Lib.LaidU8
import Derived.Lib.SmallJoins
namespace Go.Proofs.YtpgdmkhcdfhhaaaDoor
open Go.ChangeShapes Go.WideShapes Go.ChangeAt Go.RowKit
open Go.Joins (open_agg3 shut_agg3)

theorem own : ownKnob Tryd.prog.godebug = none := by kernel_rfl
theorem st_bytes (s : ByteArray) : st s.data.toList = s := by cases s; simp [st]

theorem big {n : Nat} (h : n ≤ maxLen) : n ≤ 9223372036854775807 := by unfold maxLen at h; omega
/-- the cells of a datum of numbers -/
def tabCells : DataW Unit → Array Value
  | .agg xs => (xs.filterMap fun
    | .lit (.int k n) => some (Value.int k n)
    | _ => none).toArray
  | _ => #[]

/-- THE WITNESS's WORLD: the settled one, the tables holding what their initialisers lay. -/
noncomputable def laidWorld (os : Os) : World :=
  let w0 := World.holding Tryd.prog os ⟨#[], #[], []⟩
  let put (h : Array Obj) (g : Nat) (cs : Array Value) : Array Obj := h.modify g fun
    | .cells _ t frozen => .cells cs t frozen
    | o => o
  let h1 := put w0.heap 3 (Lib.firstTab.map fun z => Value.int .u8 z).toArray
  let h2 := put h1 4 ((List.range 16).flatMap fun i => [Value.int .u8 (Lib.accLo i), Value.int .u8 (Lib.accHi i)]).toArray
  let h3 := put h2 6 (tabCells Rows.laid_math_bits_deBruijn32tab)
  let h4 := put h3 7 (tabCells Rows.laid_math_bits_deBruijn64tab)
  let h5 := put h4 5 (tabCells Rows.laid_internal_strconv_uint64pow10)
  { w0 with heap := h5 }

set_option maxRecDepth 100000 in
theorem met_compares (os : Os) (args : Array Value) : laidMet Tryd.prog Rows.numberComparesRow.laid ((laidWorld os).forCall (fun _ _ => 0) ⟨#[], args, []⟩).memory :=
  laidMet_of_run' 8 (by kernel_rfl) (by kernel_rfl)

section
variable {H : Type} {enc : TypeId × Value → H} {w : World} {base : Nat} {spare : Nat → Bool} {held : Bool}
set_option maxRecDepth 100000 in
theorem open_num {r : Reach} {b0 : Nat} {v : Value} {d : DataW H} {p : List MemPlace} (hv : Value.okWide Tryd.prog w r b0 23 v) (h : DataW.Trod enc Tryd.prog w base spare held 23 v d p) :
    ∃ (neg : Bool) (D : List UInt8) (E : Int), v = .agg #[.bool neg, .string (st D), .int .i64 E] ∧ d = .agg [.lit (.bool neg), .lit (.string D), .lit (.int .i64 E)] ∧ p = [] ∧ D.length ≤ maxLen ∧ (Lit.int .i64 E).wf = true := by
  obtain ⟨c0, c1, c2, y0, y1, y2, m, rfl, rfl, rfl, h0, h1, h2⟩ := open_agg3 Tryd.underlying23 (by kernel_rfl) (by kernel_rfl) hv h
  obtain ⟨b, e0, rfl⟩ := DataW.trod_bool Tryd.underlying4 h0
  obtain ⟨s, e1, rfl, ws⟩ := DataW.trod_string Tryd.underlying9 h1
  obtain ⟨n, e2, rfl, wn⟩ := DataW.trod_int Tryd.underlying3 h2
  simp at e0 e1 e2
  subst e0 e1 e2
  exact ⟨b, s.data.toList, n, by rw [st_bytes], rfl, rfl, ws, wn⟩
set_option maxRecDepth 100000 in
theorem shut_num (neg : Bool) (D : List UInt8) (E : Int) (hD : D.length ≤ maxLen) (hE : (Lit.int .i64 E).wf = true) :
    DataW.Trod enc Tryd.prog w base spare held 23 (.agg #[.bool neg, .string (st D), .int .i64 E]) (.agg [.lit (.bool neg), .lit (.string D), .lit (.int .i64 E)]) [] := by
  obtain ⟨n0, t0⟩ := shut_bool (enc := enc) (w := w) (base := base) (spare := spare) (held := held) Tryd.underlying4 neg
  obtain ⟨n1, t1⟩ := Go.ChangeMaps.shut_string (enc := enc) (w := w) (base := base) (sp := spare) (held := held) Tryd.underlying9 (s := st D) (by rw [st_size]; exact hD)
  obtain ⟨n2, t2⟩ := shut_int (enc := enc) (w := w) (base := base) (spare := spare) (held := held) Tryd.underlying3 hE
  exact shut_agg3 Tryd.underlying23 (by kernel_rfl) (by kernel_rfl) ⟨n0, t0⟩ ⟨n1, t1⟩ ⟨n2, t2⟩
end
end Go.Proofs.YtpgdmkhcdfhhaaaDoor
