/-
  WHAT EACH CARD OF LAYER 25 TAKES FROM THE LISTED VARIABLES: strconv's powers of ten, and its two errors; the witness's world, which holds them.
-/
import Derived.Test.YtekihjffefokjaaDoorRunesFrame
import Derived.Test.YtekihjffefokjaaDoorMkT
import Derived.Test.YtekihjffefokjaaDoorPrtW
import Derived.LaidLaws
import Derived.Lib.LaidTab
import Derived.Lib.AppendIntMem
namespace Go.Proofs.YtekihjffefokjaaDoor
open Go.ChangeShapes Go.WideShapes Go.ChangeAt Go.RowKit

theorem mitoas_tab (E : Int) (h0 : -9223372036854775808 ≤ E) (h1 : E ≤ 9223372036854775807) (w : World) (htab : ∀ W, Below w.heap.size w W → Lib.TabIs Tryd.prog W "internal/strconv.uint64pow10" .u64 Lib.pow10Tab) : Itoas E w := fun W hW => (Tryd.strconv_Itoa E h0 h1 W (htab W hW)).mono (by
  rintro e w' ⟨rfl, k, os, rfl⟩
  exact ⟨rfl, Lib.below_grow _ _ (Nat.le_refl _) _ _⟩)
theorem mlaid_tail {P : Program} {W : World} {x : String × DataW Unit} {l : List (String × DataW Unit)} {ps : List MemPlace} (h : DataW.LaidVars P W (x :: l) ps) : ∃ qs, DataW.LaidVars P W l qs := by
  obtain ⟨n, d⟩ := x
  obtain ⟨_, _, _, _, _, q, _, _, _, _, h, _⟩ := h
  exact ⟨q, h⟩
theorem mtab_of_vars {P : Program} {W : World} {name : String} {k : IntKind} {zs : List Int} {rest : List (String × DataW Unit)} {ps : List MemPlace} {g : Nat} {t e : TypeId} {n : Nat}
    (hg : P.globalNamed name = some g) (hty : (P.globals[g]?).map (·.type) = some t) (ht : P.underlying t = some (.array n e)) (he : P.underlying e = some (.int k)) (hce : P.cellsOf e = 1) (hct : P.cellsOf t = n)
    (h : DataW.LaidVars P W ((name, Lib.tabData k zs) :: rest) ps) : Lib.TabIs P W name k zs := by
  obtain ⟨g', t', cs, fuel, p, q, hg', ht', hvar, hd, _, _⟩ := h
  obtain rfl := Option.some.inj (hg.symm.trans hg')
  obtain rfl := Option.some.inj (hty.symm.trans ht')
  unfold Lib.TabIs
  rw [hvar, ← Lib.cells_of_tab ht he hce hct hd]
set_option maxRecDepth 100000 in
theorem mpow_data : (Rows.laid_internal_strconv_uint64pow10 : DataW Unit) = Lib.tabData .u64 Lib.pow10Tab := by kernel_rfl
abbrev mseven : List (String × DataW Unit) := [("math/bits.deBruijn32tab", Rows.laid_math_bits_deBruijn32tab), ("math/bits.deBruijn64tab", Rows.laid_math_bits_deBruijn64tab), ("internal/strconv.uint64pow10", Rows.laid_internal_strconv_uint64pow10), ("unicode/utf8.acceptRanges", Rows.laid_unicode_utf8_acceptRanges), ("strconv.ErrRange", Rows.laid_strconv_ErrRange), ("strconv.ErrSyntax", Rows.laid_strconv_ErrSyntax), ("unicode/utf8.first", Rows.laid_unicode_utf8_first)]
/-- the cells of a datum of numbers -/
def mtabCells : DataW Unit → Array Value
  | .agg xs => (xs.filterMap fun
    | .lit (.int k n) => some (Value.int k n)
    | _ => none).toArray
  | _ => #[]
/-- the witness's world: the five tables, and the two errors -/
noncomputable def mlaidWorld (os : Os) : World :=
  let w0 := World.holding Tryd.prog os ⟨#[], #[], []⟩
  let put (h : Array Obj) (g : Nat) (cs : Array Value) : Array Obj := h.modify g fun
    | .cells _ t frozen => .cells cs t frozen
    | o => o
  let h1 := put w0.heap 3 (Lib.firstTab.map fun z => Value.int .u8 z).toArray
  let h2 := put h1 4 ((List.range 16).flatMap fun i => [Value.int .u8 (Lib.accLo i), Value.int .u8 (Lib.accHi i)]).toArray
  let h3 := put h2 6 (mtabCells Rows.laid_math_bits_deBruijn32tab)
  let h4 := put h3 7 (mtabCells Rows.laid_math_bits_deBruijn64tab)
  let h5 := put h4 5 (mtabCells Rows.laid_internal_strconv_uint64pow10)
  let n := w0.heap.size
  let h6 := put h5 2 #[.iface 174 (.pointer (some ⟨n, 0, none⟩))]
  let h7 := put h6 1 #[.iface 174 (.pointer (some ⟨n + 1, 0, none⟩))]
  let h8 := h7.push (.cells #[.string ⟨#[118, 97, 108, 117, 101, 32, 111, 117, 116, 32, 111, 102, 32, 114, 97, 110, 103, 101]⟩] 176 (0, 0))
  let h9 := h8.push (.cells #[.string ⟨#[105, 110, 118, 97, 108, 105, 100, 32, 115, 121, 110, 116, 97, 120]⟩] 176 (0, 0))
  { w0 with heap := h9 }
set_option maxRecDepth 100000 in
theorem met_mark (os : Os) (args : Array Value) : laidMet Tryd.prog mseven ((mlaidWorld os).forCall (fun _ _ => 0) ⟨#[], args, []⟩).memory :=
  laidMet_of_run' 8 (by kernel_rfl) (by kernel_rfl)
theorem merr_of_vars {W : World} {g : Nat} {nm0 : String} {d : DataW Unit} {nm : String} {rest : List (String × DataW Unit)} {ps : List MemPlace} (h0 : Tryd.prog.globalNamed nm0 = some g) (h1 : (Tryd.prog.globals[g]?).map (·.type) = some 75)
    (h : DataW.LaidVars Tryd.prog W ((nm0, .iface nm d) :: rest) ps) : ∃ te pe, W.cell? ⟨g, 0, none⟩ = some (.iface te pe) := by
  obtain ⟨g', t', cs, fuel, p, q, hg', ht', hvar, hd, _, _⟩ := h
  obtain rfl := Option.some.inj (h0.symm.trans hg')
  obtain rfl := Option.some.inj (h1.symm.trans ht')
  obtain ⟨f2, u, v, hcs, _, _⟩ := iface_of_trod Tryd.underlying75 hd
  have hc := World.var?_cell hg' hvar 0
  have h0 : cs[0]? = some (.iface u v) := by rw [← Array.getElem?_toList, hcs]; rfl
  rw [h0] at hc
  exact ⟨u, v, hc⟩
/-- what the listed variables give -/
structure MkV (W : World) : Prop where
  hI : ∀ n : Nat, n ≤ 4294967290 → Itoas n W
  hE : ErrTwo W
theorem mark_gives {W : World} (hL : laidMetH Tryd.prog mseven W) : MkV W := by
  have hL' : laidMet Tryd.prog mseven W := hL
  obtain ⟨ps, h, _⟩ := hL'
  obtain ⟨_, h1⟩ := mlaid_tail h
  obtain ⟨_, h2⟩ := mlaid_tail h1
  obtain ⟨_, h3⟩ := mlaid_tail h2
  obtain ⟨_, h4⟩ := mlaid_tail h3
  obtain ⟨_, h5⟩ := mlaid_tail h4
  rw [mpow_data] at h2
  have hp := Lib.tabBelow_of_tabIs (mtab_of_vars (n := 20) (e := 143) (t := 168) (g := 5) (by kernel_rfl) (by kernel_rfl) (by kernel_rfl) (by kernel_rfl) (by kernel_rfl) (by kernel_rfl) h2)
  exact ⟨fun n hn => mitoas_tab n (by omega) (by omega) W hp, merr_of_vars (g := 2) (by kernel_rfl) (by kernel_rfl) h4, merr_of_vars (g := 1) (by kernel_rfl) (by kernel_rfl) h5⟩
theorem MkV.t {W : World} (h : MkV W) (hm : mx W) : MkT W := ⟨hm, h.hI, h.hE⟩
theorem lens_reach {l : List MPart} (h : ∀ x ∈ l, Lens reachBytes x) : ∀ x ∈ l, Lens 1152921504606846976 x := fun x hx => lens_mono (by decide) (h x hx)
end Go.Proofs.YtekihjffefokjaaDoor
