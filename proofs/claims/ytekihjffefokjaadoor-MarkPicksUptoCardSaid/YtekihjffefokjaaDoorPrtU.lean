/-
  A ROW OF PARTS, AND A PART, AS ARGUMENTS: how great their texts are by the bulk.
-/
import Derived.Test.YtekihjffefokjaaDoorPrtW
import Derived.Test.YtekihjffefokjaaDoorRows
namespace Go.Proofs.YtekihjffefokjaaDoor
open Go.ChangeShapes Go.WideShapes Go.ChangeAt Go.RowKit Go.Deep

section
variable {H : Type} {enc : TypeId × Value → H} {P : Program} {w : World} {base : Nat} {spare : Nat → Bool} {held : Bool}
theorem bulk_mem {d : DataW H} : ∀ {ds : List (DataW H)}, d ∈ ds → Rows.uptoBulk d ≤ Rows.uptoBulkAll ds
  | e :: ds, h => by
    rw [Rows.uptoBulkAll]
    rcases List.mem_cons.1 h with rfl | h
    · omega
    · have := bulk_mem h
      omega
theorem part_bulk {x : MPart} {N : Nat} (h : Rows.uptoBulk (partD x : DataW H) ≤ N) : Lens N x := by
  unfold partD at h
  simp only [Rows.uptoBulk, Rows.uptoBulkAll] at h
  exact ⟨by omega, by omega, by omega, by omega⟩
theorem parts_bulk {l : List MPart} {sp : List (DataW H)} {N : Nat} (h : Rows.uptoBulk (DataW.slice (l.map partD) sp : DataW H) ≤ N) : ∀ x ∈ l, Lens N x := fun x hx => by
  rw [Rows.uptoBulk] at h
  have := bulk_mem (List.mem_map_of_mem (f := partD (H := H)) hx)
  exact part_bulk (H := H) (by omega)
theorem open_partD {tP tA tB tS : TypeId} {f0 f1 f2 : Field} {r : Reach} {b0 : Nat} {v : Value} {d : DataW H} {p : List MemPlace}
    (hP : P.underlying tP = some (.struct #[f0, f1, f2])) (hF : (f0.type = tB ∧ f0.offset = 0) ∧ (f1.type = tS ∧ f1.offset = 1) ∧ f2.type = tA ∧ f2.offset = 2) (hA : P.underlying tA = some (.array 3 tS)) (hB : P.underlying tB = some .bool) (hS : P.underlying tS = some .string)
    (cP : P.cellsOf tP = 5) (cA : P.cellsOf tA = 3) (cB : P.cellsOf tB = 1) (cS : P.cellsOf tS = 1)
    (hv : Value.okWide P w r b0 tP v) (h : DataW.Trod enc P w base spare held tP v d p) :
    ∃ y : MPart, v = .agg #[.bool y.hunk, .string (st y.text), .string (st y.s0), .string (st y.s1), .string (st y.s2)] ∧ Lens maxLen y ∧ d = partD y := by
  obtain ⟨cs, rfl, hsz⟩ := okWide_struct hP hv
  obtain ⟨fuel, hf⟩ := h
  obtain ⟨y, hy, hl, _, hd⟩ := trod_partD hP hF hA hB hS cP cA cB cS hf
  refine ⟨y, ?_, hl, hd⟩
  obtain ⟨l⟩ := cs
  simp only [Value.cells] at hy
  rw [hy]
end
end Go.Proofs.YtekihjffefokjaaDoor
