/-
  PLAIN MATHEMATICS of JsonWhole, by indexes: the kids of a node and their pieces, one behind the other; how many kids there are up to a node; cells of a row of spans.
-/
import Derived.Test.YtmomildkopainaaDoorJwM
import Derived.Test.YtmomildkopainaaDoorJsZ
namespace Go.Proofs.YtmomildkopainaaDoor
open Go.RowKit

/-- where the piece of a number begins -/
def atK (a : Nat) (pcs : List (Nat × Nat)) : Nat → Nat
  | 0 => a
  | q + 1 => ((pcs[q]?).map fun p => p.2 + 1).getD 0
theorem atK_app {a q : Nat} {pcs : List (Nat × Nat)} (x : Nat × Nat) (h : q ≤ pcs.length) : atK a (pcs ++ [x]) q = atK a pcs q := by
  cases q with
  | zero => rfl
  | succ q =>
    show (((pcs ++ [x])[q]?).map fun p => p.2 + 1).getD 0 = ((pcs[q]?).map fun p => p.2 + 1).getD 0
    rw [List.getElem?_append_left (by omega)]
section
variable {s : ByteArray} {ns : List JN} {ob : Bool} {k a : Nat} {kids : List Nat} {pcs : List (Nat × Nat)} {m : Nat}
theorem Kds.len (h : Kds s ns ob k a kids pcs m) : pcs.length = kids.length := by
  induction h with
  | nil => rfl
  | snoc _ _ _ _ ih => simp [ih]
theorem Kds.last (h : Kds s ns ob k a kids pcs m) : atK a pcs kids.length = m := by
  cases h with
  | nil => rfl
  | @snoc kids pcs m j t h1 _ _ _ =>
    rw [List.length_append, List.length_singleton]
    have e := h1.len
    show (((pcs ++ [(m, t)])[kids.length]?).map fun p => p.2 + 1).getD 0 = t + 1
    rw [List.getElem?_append_right (by omega), e]
    simp
theorem Kds.le (h : Kds s ns ob k a kids pcs m) : a ≤ m := by
  induction h with
  | nil => exact Nat.le_refl _
  | snoc _ _ h3 _ ih => omega
/-- the kid of a number -/
structure KAt (s : ByteArray) (ns : List JN) (ob : Bool) (k a : Nat) (kids : List Nat) (pcs : List (Nat × Nat)) (m q j : Nat) (p : Nat × Nat) : Prop where
  kid : kids[q]? = some j
  pc : pcs[q]? = some p
  in_ : KidIn ns ob k j p
  at_ : p.1 = atK a pcs q
  next : p.2 + 1 = atK a pcs (q + 1)
  le : p.2 < m
  cm : q + 1 < kids.length → byt s p.2 = 44
theorem Kds.ix (h : Kds s ns ob k a kids pcs m) : ∀ q, q < kids.length → ∃ j p, KAt s ns ob k a kids pcs m q j p := by
  induction h with
  | nil => exact fun q h => absurd h (by simp)
  | @snoc kids pcs m j t h1 h2 h3 h4 ih =>
    intro q hq
    rw [List.length_append, List.length_singleton] at hq
    have e := h1.len
    by_cases hl : q < kids.length
    · obtain ⟨j', p, i1, i2, i3, i4, i5, i6, i7⟩ := ih q hl
      refine ⟨j', p, by rw [List.getElem?_append_left hl]; exact i1, by rw [List.getElem?_append_left (by omega)]; exact i2, i3, by rw [atK_app _ (by omega)]; exact i4, by rw [atK_app _ (by omega)]; exact i5, by omega, fun hq2 => ?_⟩
      by_cases h5 : q + 1 < kids.length
      · exact i7 h5
      · have h6 : q + 1 = kids.length := by omega
        have h7 := h1.last
        rw [h6] at i5
        have h8 := h2 (fun e => by rw [e] at hl; exact absurd hl (by simp))
        rw [show p.2 = m - 1 by omega]
        exact h8
    · obtain rfl : q = kids.length := by omega
      refine ⟨j, (m, t), by simp, by rw [← e]; simp, h4, ?_, ?_, Nat.lt_succ_self _, fun hq2 => by simp at hq2⟩
      · rw [atK_app _ (by omega)]; exact h1.last.symm
      · show t + 1 = (((pcs ++ [(m, t)])[kids.length]?).map fun p => p.2 + 1).getD 0
        rw [← e]; simp
end
def sumTo (ns : List JN) (k : Nat) : Nat := sumK (ns.take k)
theorem sumTo_succ {ns : List JN} {k : Nat} {x : JN} (h : ns[k]? = some x) : sumTo ns (k + 1) = sumTo ns k + x.kids.length := by
  unfold sumTo sumK
  rw [List.take_add_one, h]
  simp
theorem sumTo_le (ns : List JN) (k : Nat) : sumTo ns k ≤ sumK ns := by
  have e : sumK ns = sumK (ns.take k) + sumK (ns.drop k) := by
    unfold sumK
    rw [← List.sum_append, ← List.map_append, List.take_append_drop]
  unfold sumTo
  omega
theorem sumTo_all (ns : List JN) : sumTo ns ns.length = sumK ns := by unfold sumTo; rw [List.take_length]
theorem pcC_at : ∀ (l : List (Nat × Nat)) (k : Nat) (h : k < l.length), (pcC l)[k * 2]? = some (.int .i64 (l[k].1 : Int)) ∧ (pcC l)[k * 2 + 1]? = some (.int .i64 (l[k].2 : Int))
  | [], k, h => absurd h (by simp)
  | p :: l, 0, _ => ⟨rfl, rfl⟩
  | p :: l, k + 1, h => by
    obtain ⟨h1, h2⟩ := pcC_at l k (by simpa using h)
    have e : pcC (p :: l) = .int .i64 (p.1 : Int) :: .int .i64 (p.2 : Int) :: pcC l := rfl
    rw [e, show (k + 1) * 2 = k * 2 + 1 + 1 by omega]
    simp only [List.getElem?_cons_succ, List.getElem_cons_succ]
    exact ⟨h1, h2⟩
theorem spans_cell {W : World} {B : Nat} {v : Value} {l : List (Nat × Nat)} (h : W.ownsRow B 49 2 v l.length (pcC l)) {k : Nat} (hk : k < l.length) : ∃ g c, v = .slice (some ⟨g, 0, none⟩) l.length c ∧ W.cell? ⟨g, k * 2, none⟩ = some (.int .i64 (l[k].1 : Int)) ∧ W.cell? ⟨g, k * 2 + 1, none⟩ = some (.int .i64 (l[k].2 : Int)) := by
  obtain ⟨n, hn⟩ : ∃ n, l.length = n + 1 := ⟨l.length - 1, by omega⟩
  rw [hn] at h
  obtain ⟨g, c, hv, _, _, hc⟩ := row_cells1 h
  obtain ⟨h1, h2⟩ := pcC_at l k hk
  exact ⟨g, c, by rw [hv, hn], hc _ _ h1, hc _ _ h2⟩
theorem nids_cell {W : World} {B : Nat} {v : Value} {l : List Nat} (h : W.ownsRow B 3 1 v l.length (kidC l)) {k : Nat} (hk : k < l.length) : ∃ g c, v = .slice (some ⟨g, 0, none⟩) l.length c ∧ W.cell? ⟨g, k, none⟩ = some (.int .i64 (l[k] : Int)) := by
  obtain ⟨n, hn⟩ : ∃ n, l.length = n + 1 := ⟨l.length - 1, by omega⟩
  rw [hn] at h
  obtain ⟨g, c, hv, _, _, hc⟩ := row_cells1 h
  exact ⟨g, c, by rw [hv, hn], hc k _ (by unfold kidC; simp [hk])⟩
theorem below_drewN {B : Nat} {a w : World} (h : Below B a w) (n : Nat) : Below B a (w.drewN n) := ⟨h.os, h.tape, h.output, h.size, h.block⟩
end Go.Proofs.YtmomildkopainaaDoor
