/-
  MEMORY of order.Merge: the two rows of order.waiting, the names that are left, what is merged.
-/
import Derived.Test.YtccdmoogjcgcfaaOrY
namespace Go.Proofs.Ytccdmoogjcgcfaa
open Go.RowKit Go.Sort

theorem row_cut {w : World} {B e g n cap : Nat} {xs : List Value} {y : Value} (h : w.ownsRow B e 1 (.slice (some ⟨g, 0, none⟩) (n + 1) cap) (n + 1) (xs ++ [y])) (hx : xs.length = n) : w.ownsRow B e 1 (.slice (some ⟨g, 0, none⟩) n cap) n xs := by
  rcases h.2 with ⟨h1, _⟩ | ⟨g', cap', cur, h1, hb, hg, r1, r2, r3, r4⟩
  · cases h1
  · cases h1
    refine ⟨by simp [hx], .inr ⟨g, cap, cur, rfl, hb, hg, by omega, r2, r3, ?_⟩⟩
    have h5 : cur.toList.take (n * 1) = (cur.toList.take ((n + 1) * 1)).take (n * 1) := by rw [List.take_take]; congr 1; omega
    rw [h5, r4, Nat.mul_one, ← hx]
    simp
theorem delete_row {w : World} {B g cap k q : Nat} {rest : List Bs} (h : w.ownsRow B 9 1 (.slice (some ⟨g, 0, none⟩) rest.length cap) rest.length (strCells rest)) (hn : rest.Nodup) (hk : k < rest.length) :
    (putRow encStr (Sort.ahead w q) g 0 (rest.take k ++ rest.drop (k + 1) ++ List.replicate (k + 1 - k) []).toArray).ownsRow B 9 1 (.slice (some ⟨g, 0, none⟩) (rest.length - (k + 1 - k)) cap) (rest.length - (k + 1 - k)) (strCells (rest.erase rest[k])) ∧ w.grownBy (putRow encStr (Sort.ahead w q) g 0 (rest.take k ++ rest.drop (k + 1) ++ List.replicate (k + 1 - k) []).toArray) (some g) := by
  have hgr : ∀ X : World, grow X #[] = X := fun X => by simp [grow]
  rcases h.2 with ⟨h1, _⟩ | ⟨g', cap', cur, h1, hb, hg, r1, r2, r3, r4⟩
  · cases h1
  · cases h1
    rw [erase_at hn hk, show k + 1 - k = 1 by omega]
    have hl := List.length_erase_of_mem (List.getElem_mem hk)
    have h2 := ownsRow_sorted (n := q) (os := #[]) (ss := rest) (ts := rest.erase rest[k] ++ List.replicate 1 []) (by rw [List.length_append, hl, List.length_replicate]; omega) hb hg r1 r2 r3
    have h3 := grownBy_sorted (w := w) (g := g) (n := q) (os := #[]) (rest.erase rest[k] ++ List.replicate 1 []).toArray
    rw [hgr] at h2 h3
    refine ⟨?_, h3⟩
    obtain ⟨m, hm⟩ : ∃ m, rest.length = m + 1 := ⟨rest.length - 1, by omega⟩
    rw [hm] at h2 hl ⊢
    rw [List.map_append] at h2
    exact row_cut h2 (by show (List.map _ _).length = _; rw [List.length_map, hl])
/-- the row that a step turns is a row of texts -/
def TextRow (w : World) (row : Option Nat) : Prop := ∀ g, row = some g → ∃ cur, w.heap[g]? = some (.cells cur 9 (0, 0))
theorem text_own {w : World} {B e n : Nat} {v : Value} {xs : List Value} (h : w.ownsRow B e 1 v n xs) : ∀ g, v.ownBlock = some g → ∃ cur, w.heap[g]? = some (.cells cur e (0, 0)) := fun g hg => by
  rcases h.2 with ⟨rfl, _⟩ | ⟨g', cap', cur, rfl, hb, hg', _⟩
  · cases hg
  · have : g' = g := by simpa [Value.ownBlock] using hg
    subst this
    exact ⟨cur, hg'⟩
section
variable {w w' : World} {row : Option Nat}
theorem boxed_text {b : Nat} {t : TypeId} {v : Value} (h : Boxed w b t v) (ht : t ≠ 9) (hg : w.grownBy w' row) (hr : TextRow w row) : Boxed w' b t v := h.kept hg fun e => by
  obtain ⟨cur, hc⟩ := hr b e.symm
  rw [show w.heap[b]? = _ from h] at hc
  cases hc
  exact ht rfl
theorem map_text {b k : Nat} {l : List Bs} (h : MapTo w b k l) (hg : w.grownBy w' row) (hr : TextRow w row) : MapTo w' b k l := h.kept hg fun e => by
  obtain ⟨cur, hc⟩ := hr b e.symm
  obtain ⟨es, c, hm⟩ := h.heap
  rw [hm] at hc
  cases hc
theorem whole_text {b : Nat} {t : TypeId} {cs : Array Value} (h : Whole w b t cs) (ht : t ≠ 9) (hg : w.grownBy w' row) (hr : TextRow w row) : Whole w' b t cs := (hg.block b h.lt fun e => by
  obtain ⟨cur, hc⟩ := hr b e.symm
  rw [show w.heap[b]? = _ from h] at hc
  cases hc
  exact ht rfl).trans h
theorem Wst.text {B gW gB n : Nat} {W : Nat → Int} {F : Nat → Value} {R : Nat → List Nat} (h : Wst B w gW gB n W F R) (hg : w.grownBy w' row) (hr : TextRow w row) : Wst B w' gW gB n W F R :=
  ⟨whole_text h.hw (by decide) hg hr, whole_text h.hb (by decide) hg hr, fun k hk => (h.own k hk).kept hg (by
    cases hv : (F k).ownBlock with
    | none => exact .inl rfl
    | some q =>
      refine .inr fun e => ?_
      obtain ⟨c1, h1⟩ := hr q e.symm
      obtain ⟨c2, h2⟩ := text_own (h.own k hk) q hv
      rw [h1] at h2
      cases h2), h.ap, h.l1, h.l2, h.ne, Nat.le_trans h.le hg.size⟩
end
/-- what lies in memory between two rounds -/
structure Mst (w0 : World) (bW bN gS gW gB mN B C D cap : Nat) (l : List Bs) (F : Nat → Value) (R : Nat → List Nat) (rest done : List Bs) (vM : Value) (W : Nat → Int) (w : World) : Prop where
  xw : Boxed w bW 37 (.slice (some ⟨gW, 0, none⟩) l.length l.length)
  xn : Boxed w bN 45 (.map (some mN))
  hm : MapTo w mN l.length l
  st : Wst B w gW gB l.length W F R
  by_ : w.ownsRow C 9 1 (.slice (some ⟨gS, 0, none⟩) rest.length cap) rest.length (strCells rest)
  mr : w.ownsRow D 9 1 vM done.length (strCells done)
  bl : Below w0.heap.size w0 w
  l1 : w0.heap.size ≤ gW
  l2 : w0.heap.size ≤ gS
  l3 : w0.heap.size ≤ D
  l4 : gS < D
  l5 : D ≤ w.heap.size
section
variable {w0 : World} {bW bN gS gW gB mN B C D cap : Nat} {l : List Bs} {F : Nat → Value} {R : Nat → List Nat} {rest done : List Bs} {vM : Value} {W : Nat → Int} {w w' : World}
theorem Mst.sS (h : Mst w0 bW bN gS gW gB mN B C D cap l F R rest done vM W w) : TextRow w (some gS) := fun g e => by
  cases e
  exact text_own h.by_ gS rfl
theorem Mst.sM (h : Mst w0 bW bN gS gW gB mN B C D cap l F R rest done vM W w) : TextRow w vM.ownBlock := text_own h.mr
theorem Mst.grow (h : Mst w0 bW bN gS gW gB mN B C D cap l F R rest done vM W w) (hb : Below w.heap.size w w') : Mst w0 bW bN gS gW gB mN B C D cap l F R rest done vM W w' := by
  have hg : w.grownBy w' none := ⟨hb.os, hb.tape, hb.output, hb.size, fun j hj _ => hb.block j hj⟩
  have hr : TextRow w none := fun g e => by cases e
  exact ⟨boxed_text h.xw (by decide) hg hr, boxed_text h.xn (by decide) hg hr, map_text h.hm hg hr, h.st.text hg hr, h.by_.kept hg (.inr (by simp [Value.ownBlock])), h.mr.kept hg (by cases vM.ownBlock <;> simp), h.bl.trans (hb.mono h.bl.size), h.l1, h.l2, h.l3, h.l4, Nat.le_trans h.l5 hg.size⟩
/-- a name is deleted -/
theorem Mst.del (h : Mst w0 bW bN gS gW gB mN B C D cap l F R rest done vM W w) {rest' : List Bs} (hg : w.grownBy w' (some gS)) (ho : w'.ownsRow C 9 1 (.slice (some ⟨gS, 0, none⟩) rest'.length cap) rest'.length (strCells rest')) : Mst w0 bW bN gS gW gB mN B C D cap l F R rest' done vM W w' :=
  ⟨boxed_text h.xw (by decide) hg h.sS, boxed_text h.xn (by decide) hg h.sS, map_text h.hm hg h.sS, h.st.text hg h.sS, ho, h.mr.kept hg (by
    cases hv : vM.ownBlock with
    | none => exact .inl rfl
    | some q =>
      refine .inr fun e => ?_
      have h1 := (h.mr.lt q hv).1
      have h2 := h.l4
      have h3 := Option.some.inj e
      omega), h.bl.grown hg h.bl.size (fun k e => by cases e; exact h.l2), h.l1, h.l2, h.l3, h.l4, Nat.le_trans h.l5 hg.size⟩
/-- a name is merged -/
theorem Mst.app (h : Mst w0 bW bN gS gW gB mN B C D cap l F R rest done vM W w) {done' : List Bs} {vM' : Value} (hg : w.grownBy w' vM.ownBlock) (ho : w'.ownsRow D 9 1 vM' done'.length (strCells done')) : Mst w0 bW bN gS gW gB mN B C D cap l F R rest done' vM' W w' :=
  ⟨boxed_text h.xw (by decide) hg h.sM, boxed_text h.xn (by decide) hg h.sM, map_text h.hm hg h.sM, h.st.text hg h.sM, h.by_.kept hg (.inr fun e => by
      have h1 := (h.mr.lt gS e.symm).1
      have h2 := h.l4
      omega), ho, h.bl.grown hg h.bl.size (fun k e => Nat.le_trans h.l3 (h.mr.lt k e).1), h.l1, h.l2, h.l3, h.l4, Nat.le_trans h.l5 hg.size⟩
/-- a count is written -/
theorem Mst.put (h : Mst w0 bW bN gS gW gB mN B C D cap l F R rest done vM W w) (k : Nat) (z : Int) : Mst w0 bW bN gS gW gB mN B C D cap l F R rest done vM (fun j => if j = k then z else W j) (w.setCell ⟨gW, k, none⟩ (.int .i64 z)) := by
  have hg : w.grownBy (w.setCell ⟨gW, k, none⟩ (.int .i64 z)) (some gW) := ⟨rfl, rfl, rfl, by rw [set_size']; exact Nat.le_refl _, fun j _ hne => Below.heap_setCell w ⟨gW, k, none⟩ _ j (fun e => hne (by rw [e]))⟩
  have hW : ∃ cur, w.heap[gW]? = some (.cells cur 3 (0, 0)) := ⟨_, h.st.hw⟩
  have hrow : ∀ {B e n : Nat} {v : Value} {xs : List Value}, w.ownsRow B e 1 v n xs → e ≠ 3 → v.ownBlock = none ∨ v.ownBlock ≠ some gW := fun {B e n v xs} ho he => by
    cases hv : v.ownBlock with
    | none => exact .inl rfl
    | some q =>
      refine .inr fun e' => ?_
      obtain ⟨c1, h1⟩ := hW
      obtain ⟨c2, h2⟩ := text_own ho q hv
      rw [Option.some.inj e', h1] at h2
      cases h2
      exact he rfl
  have hbox : ∀ {b : Nat} {t : TypeId} {v : Value}, Boxed w b t v → t ≠ 3 → some b ≠ some gW := fun {b t v} hb ht e => by
    obtain ⟨c1, h1⟩ := hW
    rw [← Option.some.inj e, show w.heap[b]? = _ from hb] at h1
    cases h1
    exact ht rfl
  refine ⟨h.xw.kept hg (hbox h.xw (by decide)), h.xn.kept hg (hbox h.xn (by decide)), h.hm.kept hg (fun e => ?_), h.st.putW k z, h.by_.kept hg (hrow h.by_ (by decide)), h.mr.kept hg (hrow h.mr (by decide)), h.bl.setCell (by simp only; exact h.l1) _, h.l1, h.l2, h.l3, h.l4, Nat.le_trans h.l5 hg.size⟩
  obtain ⟨c1, h1⟩ := hW
  obtain ⟨es, c, hm⟩ := h.hm.heap
  rw [← Option.some.inj e, hm] at h1
  cases h1
/-- the names that are left, read -/
theorem Mst.read (h : Mst w0 bW bN gS gW gB mN B C D cap l F R rest done vM W w) : StrsIn w (some ⟨gS, 0, none⟩) rest := fun i hi => by
  refine ⟨gS, 0, rfl, ?_⟩
  have h2 := h.by_.cells (g := gS) rfl i (.string (Go.Proofs.Ytccdmoogjcgcfaa.st rest[i])) (by unfold strCells; rw [List.getElem?_map, List.getElem?_eq_getElem hi]; rfl)
  rw [Go.WideShapes.add_plain] at h2
  exact h2
end
end Go.Proofs.Ytccdmoogjcgcfaa
