/-
  WHAT THE CARDS OF NumberTells AND NumberBack TAKE FROM THE LISTED VARIABLES: the powers of ten, and that the error of 'out of range' is one; a world that holds all seven.
-/
import Derived.Test.YtpgdmkhcdfhhaaaDoorNumLaid
import Derived.Test.YtpgdmkhcdfhhaaaDoorNumBack
import Derived.LaidLaws
import Derived.Lib.AtoiErrMem
namespace Go.Proofs.YtpgdmkhcdfhhaaaDoor
open Go.ChangeShapes Go.WideShapes Go.ChangeAt Go.RowKit

abbrev seven : List (String × DataW Unit) := [("math/bits.deBruijn32tab", Rows.laid_math_bits_deBruijn32tab), ("math/bits.deBruijn64tab", Rows.laid_math_bits_deBruijn64tab), ("internal/strconv.uint64pow10", Rows.laid_internal_strconv_uint64pow10), ("unicode/utf8.acceptRanges", Rows.laid_unicode_utf8_acceptRanges), ("strconv.ErrRange", Rows.laid_strconv_ErrRange), ("strconv.ErrSyntax", Rows.laid_strconv_ErrSyntax), ("unicode/utf8.first", Rows.laid_unicode_utf8_first)]

/-- the witness's world: the five tables, and the two errors -/
noncomputable def laidWorld7 (os : Os) : World :=
  let w0 := laidWorld os
  let put (h : Array Obj) (g : Nat) (cs : Array Value) : Array Obj := h.modify g fun
    | .cells _ t frozen => .cells cs t frozen
    | o => o
  let n := w0.heap.size
  let h1 := put w0.heap 1 #[.iface 140 (.pointer (some ⟨n, 0, none⟩))]
  let h2 := put h1 0 #[.iface 140 (.pointer (some ⟨n + 1, 0, none⟩))]
  let h3 := h2.push (.cells #[.string ⟨#[118, 97, 108, 117, 101, 32, 111, 117, 116, 32, 111, 102, 32, 114, 97, 110, 103, 101]⟩] 142 (0, 0))
  let h4 := h3.push (.cells #[.string ⟨#[105, 110, 118, 97, 108, 105, 100, 32, 115, 121, 110, 116, 97, 120]⟩] 142 (0, 0))
  { w0 with heap := h4 }
set_option maxRecDepth 100000 in
theorem met_seven (os : Os) (args : Array Value) : laidMet Tryd.prog seven ((laidWorld7 os).forCall (fun _ _ => 0) ⟨#[], args, []⟩).memory :=
  laidMet_of_run' 8 (by kernel_rfl) (by kernel_rfl)
theorem err_of_vars {W : World} {d : DataW Unit} {nm : String} {rest : List (String × DataW Unit)} {ps : List MemPlace} (h : DataW.LaidVars Tryd.prog W (("strconv.ErrRange", .iface nm d) :: rest) ps) : ErrAt W := by
  obtain ⟨g', t', cs, fuel, p, q, hg', ht', hvar, hd, _, _⟩ := h
  obtain rfl := Option.some.inj ((show Tryd.prog.globalNamed "strconv.ErrRange" = some 1 by kernel_rfl).symm.trans hg')
  obtain rfl := Option.some.inj ((show (Tryd.prog.globals[1]?).map (·.type) = some 52 by kernel_rfl).symm.trans ht')
  obtain ⟨f2, u, v, hcs, _, _⟩ := iface_of_trod Tryd.underlying52 hd
  have hc := World.var?_cell hg' hvar 0
  have h0 : cs[0]? = some (.iface u v) := by rw [← Array.getElem?_toList, hcs]; rfl
  rw [h0] at hc
  exact ⟨Lib.lt_of_cell hc, u, v, hc⟩
theorem seven_gives {W : World} (hL : laidMetH Tryd.prog seven W) : Its W ∧ ErrAt W := by
  have hL' : laidMet Tryd.prog seven W := hL
  obtain ⟨ps, h, _⟩ := hL'
  have hp := pow_of_vars h
  obtain ⟨_, h1⟩ := laid_tail h
  obtain ⟨_, h2⟩ := laid_tail h1
  obtain ⟨_, h3⟩ := laid_tail h2
  obtain ⟨_, h4⟩ := laid_tail h3
  exact ⟨fun E h0 h1 => itoas_tab E h0 h1 W hp, err_of_vars h4⟩
end Go.Proofs.YtpgdmkhcdfhhaaaDoor
