/-
  WALKS: json.Path, json.Slice, and the document's.
  WALKS: the document's Slice; the law JsonPaths.
-/
import Derived.Test.YtmomildkopainaaDoorJsZ
import Derived.Test.YtmomildkopainaaDoorLexAlone
namespace Go.Proofs.YtmomildkopainaaDoor
open Go.RowKit

/-- is a byte in a node? -/
def inN (ns : List JN) (z : Int) (i : Nat) : Bool := match ns[i]? with
  | some n => decide ((n.a : Int) ≤ z) && decide (z < (n.b : Int))
  | none => false
def pathTo (ns : List JN) (z : Int) (k : Nat) : List Nat := (List.range k).filter (inN ns z)
theorem pathTo_yes {ns : List JN} {z : Int} {k : Nat} (h : inN ns z k = true) : pathTo ns z (k + 1) = pathTo ns z k ++ [k] := by
  unfold pathTo; rw [List.range_succ, List.filter_append]; simp [h]
theorem pathTo_no {ns : List JN} {z : Int} {k : Nat} (h : inN ns z k = false) : pathTo ns z (k + 1) = pathTo ns z k := by
  unfold pathTo; rw [List.range_succ, List.filter_append]; simp [h]
theorem pathTo_len (ns : List JN) (z : Int) (k : Nat) : (pathTo ns z k).length ≤ k := by
  unfold pathTo
  have := List.length_filter_le (inN ns z) (List.range k)
  rw [List.length_range] at this
  exact this
theorem inN_at {nv : List NV} {z : Int} {k : Nat} (h : k < nv.length) : inN (nv.map NV.n) z k = (decide ((nv[k].n.a : Int) ≤ z) && decide (z < (nv[k].n.b : Int))) := by
  unfold inN; simp [h]
def PathPost (B : Nat) (l : List Nat) (e : Ending) (W' : World) : Prop := ∃ v, e = .returned (.tuple #[v, .bool (decide (0 < l.length))]) ∧ W'.ownsRow B 3 1 v l.length (kidC l)
/-- the bytes of a span -/
def sliceM (s : ByteArray) (a b : Int) : ByteArray := (textT s a b).1
end Go.Proofs.YtmomildkopainaaDoor

namespace Go.Proofs.YtmomildkopainaaDoor
open Go.RowKit

theorem below_drawn'' {B : Nat} {a w : World} (h : Below B a w) (n : Nat) : Below B a (w.drewN n) := ⟨h.os, h.tape, h.output, h.size, h.block⟩
theorem ints_cell {W : World} {B : Nat} {v : Value} {l : List Nat} (h : W.ownsRow B 3 1 v l.length (kidC l)) {k : Nat} (hk : k < l.length) : ∃ g c, v = .slice (some ⟨g, 0, none⟩) l.length c ∧ W.cell? ⟨g, k, none⟩ = some (.int .i64 (l[k] : Int)) := by
  obtain ⟨n, hn⟩ : ∃ n, l.length = n + 1 := ⟨l.length - 1, by omega⟩
  rw [hn] at h
  obtain ⟨g, c, hv, _, _, hc⟩ := row_cells1 h
  exact ⟨g, c, by rw [hv, hn], hc k _ (by unfold kidC; simp [hk])⟩
end Go.Proofs.YtmomildkopainaaDoor
