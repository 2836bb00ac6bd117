/-
  A ROW OF STRINGS AS AN ARGUMENT: read; carried into a world that has grown; a row of the call's own, read.
-/
import Derived.Test.YtfibmmmbpfnccaaGreatDoorNumMath
import Derived.Test.YtfibmmmbpfnccaaGreatDoorMem
import Derived.SliceStrings
import Derived.WideShapes
import Derived.Carry
import Derived.Below
import Derived.ChangeAt
import Derived.OpenShut
import Derived.Laws.AppendOwn
namespace Go.Proofs.YtfibmmmbpfnccaaGreatDoor
open Go.ChangeShapes Go.WideShapes Go.ChangeAt Go.RowKit

theorem cell_blk {w : World} {a : Addr} {v : Value} (h : w.cell? a = some v) : a.block < w.heap.size := by
  by_cases hb : a.block < w.heap.size
  · exact hb
  · unfold World.cell? at h
    rw [Array.getElem?_eq_none (by omega)] at h
    cases h
/-- a row of texts lies behind an address -/
def StrsIn (w : World) (o : Option Addr) (l : List Bs) : Prop := ∀ i (h : i < l.length), ∃ b f, o = some ⟨b, f, none⟩ ∧ w.cell? ⟨b, f + i, none⟩ = some (.string (st l[i]))
theorem StrsIn.grow {w w' : World} {o : Option Addr} {l : List Bs} (h : StrsIn w o l) (hb : Below w.heap.size w w') : StrsIn w' o l := fun i hi => by
  obtain ⟨b, f, h1, h2⟩ := h i hi
  exact ⟨b, f, h1, (hb.cell (p := ⟨b, f + i, none⟩) (cell_blk h2)).trans h2⟩
theorem StrsIn.nil (w : World) (o : Option Addr) : StrsIn w o [] := fun i hi => absurd hi (Nat.not_lt_zero i)
section
variable {H : Type} {enc : TypeId × Value → H} {P : Program} {w : World} {base : Nat} {spare : Nat → Bool} {held : Bool}
theorem open_strrow {tL tE : TypeId} {r : Reach} {b0 : Nat} {v : Value} {d : DataW H} {p : List MemPlace} (hL : P.underlying tL = some (.slice tE)) (hE : P.underlying tE = some .string) (cE : P.cellsOf tE = 1)
    (hv : Value.okWide P w r b0 tL v) (h : DataW.Trod enc P w base spare held tL v d p) :
    ∃ (o : Option Addr) (cap : Nat) (l : List Bs), v = .slice o l.length cap ∧ l.length ≤ cap ∧ cap ≤ maxLen ∧ StrsIn w o l ∧ ∀ x ∈ l, x.length ≤ maxLen := by
  obtain ⟨a0, len, cap, rfl⟩ := okWide_slice hL hv
  obtain ⟨fuel, hf⟩ := h
  rcases open_strings hL hE cE hf with ⟨hcs, hx⟩ | ⟨a, len', cap', zs, hcs, hb, hl, hm, hz, hx, hcell, hwf⟩
  · simp [Value.cells] at hcs
    obtain ⟨rfl, rfl, rfl⟩ := hcs
    exact ⟨none, 0, [], rfl, Nat.le_refl _, Nat.zero_le _, StrsIn.nil _ _, fun x hx => by cases hx⟩
  · simp [Value.cells] at hcs
    obtain ⟨rfl, rfl, rfl⟩ := hcs
    have hlz : len ≤ zs.length := by rw [hz]; split <;> omega
    have htl : ((zs.take len).map fun s => s.data.toList).length = len := by rw [List.length_map, List.length_take]; omega
    refine ⟨some a, cap, (zs.take len).map fun s => s.data.toList, by rw [htl], by rw [htl]; exact hl, hm, ?_, ?_⟩
    · intro i hil
      rw [htl] at hil
      obtain ⟨b, f, spot⟩ := a
      have hspot : spot = none := by
        have := hcell 0 (by omega)
        simpa [Addr.add] using World.cell?_spot this
      subst hspot
      have hc := hcell i (by omega)
      rw [add_plain] at hc
      refine ⟨b, f, rfl, hc.trans ?_⟩
      rw [List.getElem_map, List.getElem_take, st_of, List.getD_eq_getElem?_getD, List.getElem?_eq_getElem (by omega)]
      rfl
    · intro x hx
      obtain ⟨s, hs, rfl⟩ := List.mem_map.1 hx
      exact hwf s (List.mem_of_mem_take hs)
end
/-- a row of texts, as a value -/
structure SRow where
  o : Option Addr
  cap : Nat
  l : List Bs
def SRow.v (r : SRow) : Value := .slice r.o r.l.length r.cap
structure SRow.ok (w : World) (r : SRow) : Prop where
  le : r.l.length ≤ r.cap
  cp : r.cap ≤ maxLen
  rd : StrsIn w r.o r.l
theorem SRow.ok.grow {w w' : World} {r : SRow} (h : r.ok w) (hb : Below w.heap.size w w') : r.ok w' := ⟨h.le, h.cp, h.rd.grow hb⟩
/-- rows of texts behind an address -/
def RowsIn (w : World) (o : Option Addr) (rs : List SRow) : Prop := ∀ i (h : i < rs.length), (∃ b f, o = some ⟨b, f, none⟩ ∧ w.cell? ⟨b, f + i, none⟩ = some rs[i].v) ∧ rs[i].ok w
theorem RowsIn.grow {w w' : World} {o : Option Addr} {rs : List SRow} (h : RowsIn w o rs) (hb : Below w.heap.size w w') : RowsIn w' o rs := fun i hi => by
  obtain ⟨⟨b, f, h1, h2⟩, h3⟩ := h i hi
  exact ⟨⟨b, f, h1, (hb.cell (p := ⟨b, f + i, none⟩) (cell_blk h2)).trans h2⟩, h3.grow hb⟩
theorem rows_whole {w : World} {g : Nat} {T : TypeId} {rs : List SRow} {cs : Array Value} (h : Whole w g T cs) (hc : cs = (rs.map SRow.v).toArray) (hr : ∀ r ∈ rs, r.ok w) : RowsIn w (some ⟨g, 0, none⟩) rs := fun i hi => by
  subst hc
  refine ⟨⟨g, 0, rfl, ?_⟩, hr _ (List.getElem_mem hi)⟩
  rw [Nat.zero_add, h.at_ i]
  simp [hi]
end Go.Proofs.YtfibmmmbpfnccaaGreatDoor
