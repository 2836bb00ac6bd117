/-
  MEMORY: a set of blocks that a call may turn; what else lies there stays.
  MEMORY of json's reader: its tokens, its nodes, their kids and pieces.
  WALKS: json's reader: fail, next, take, step, leaf.
  WALKS: json's reader: step, leaf; what a value, a kid, a list leave.
-/
import Derived.Test.YtmomildkopainaaDoorMem
import Derived.Laws.AppendOwn
import Derived.OpenShut
import Derived.Carry
import Derived.ChangeAt
import Derived.Below
import Derived.Test.YtmomildkopainaaDoorJsM
import Derived.Test.YtmomildkopainaaDoorLexT
import Derived.Deep.LoopGhost

namespace Go.Proofs.YtmomildkopainaaDoor
open Go.RowKit Go.OpenShut

/-- between W and W' blocks of the set alone are turned, and the set has grown by new blocks alone -/
structure Fr (o o' : Nat → Prop) (W W' : World) : Prop where
  os : W'.os = W.os
  tape : W'.tape = W.tape
  output : W'.output = W.output
  size : W.heap.size ≤ W'.heap.size
  block : ∀ k, k < W.heap.size → ¬ o k → W'.heap[k]? = W.heap[k]?
  own : ∀ k, o' k → o k ∨ W.heap.size ≤ k
section
variable {o o' o'' : Nat → Prop} {W W' W'' : World}
theorem Fr.refl (o : Nat → Prop) (W : World) : Fr o o W W := ⟨rfl, rfl, rfl, Nat.le_refl _, fun _ _ _ => rfl, fun _ h => .inl h⟩
theorem Fr.trans (h : Fr o o' W W') (k : Fr o' o'' W' W'') : Fr o o'' W W'' :=
  ⟨k.os.trans h.os, k.tape.trans h.tape, k.output.trans h.output, Nat.le_trans h.size k.size, fun i hi hn => (k.block i (Nat.lt_of_lt_of_le hi h.size) fun ho => (h.own i ho).elim hn (fun h' => by omega)).trans (h.block i hi hn),
    fun i hi => (k.own i hi).elim (fun h' => h.own i h') fun h' => .inr (Nat.le_trans h.size h')⟩
theorem Fr.of_below (o : Nat → Prop) (h : Below W.heap.size W W') : Fr o o W W' := ⟨h.os, h.tape, h.output, h.size, fun k hk _ => h.block k hk, fun _ h => .inl h⟩
theorem Fr.below (h : Fr o o' W W') {B : Nat} (hB : ∀ k, o k → B ≤ k) (hs : B ≤ W.heap.size) : Below B W W' := ⟨h.os, h.tape, h.output, h.size, fun k hk => h.block k (by omega) fun ho => by have := hB k ho; omega⟩
theorem Fr.drew (h : Fr o o' W W') : Fr o o' W W'.drew := ⟨h.os, h.tape, h.output, h.size, h.block, h.own⟩
theorem Fr.set (h : Fr o o' W W') {p : Addr} (hp : o' p.block) (u : Value) : Fr o o' W (W'.setCell p u) :=
  h.trans ⟨rfl, rfl, rfl, by simp [World.setCell], fun k _ hn => Below.heap_setCell _ _ _ _ (fun e => hn (by rw [e]; exact hp)), fun _ h => .inl h⟩
theorem Fr.grown (h : Fr o o' W W') {row : Option Nat} (hg : W'.grownBy W'' row) (hr : ∀ k, row = some k → o' k) (hn : ∀ k, o'' k → o' k ∨ W'.heap.size ≤ k) : Fr o o'' W W'' :=
  h.trans ⟨hg.os, hg.tape, hg.output, hg.size, fun k hk hk' => hg.block k hk fun e => hk' (hr k e.symm), hn⟩
end
/-- a block of the call's own, beside the set -/
structure Lo (o : Nat → Prop) (W : World) (b : Nat) (t : TypeId) (cs : Array Value) : Prop where
  at_ : Whole W b t cs
  no : ¬ o b
section
variable {o o' : Nat → Prop} {W W' : World} {b : Nat} {t : TypeId} {cs : Array Value}
theorem Lo.step (h : Lo o W b t cs) (f : Fr o o' W W') : Lo o' W' b t cs := ⟨(f.block b h.at_.lt h.no).trans h.at_, fun ho => (f.own b ho).elim h.no fun h' => by have := h.at_.lt; omega⟩
theorem Lo.new (ho : ∀ k, o k → k < W.heap.size) (t : TypeId) (cs : Array Value) : Lo o (W.alloc (.cells cs t)) W.heap.size t cs := ⟨Whole.made W t cs, fun h => by have := ho _ h; omega⟩
theorem Lo.below (h : Lo o W b t cs) (f : Below W.heap.size W W') : Lo o W' b t cs := ⟨h.at_.grow f, h.no⟩
theorem Lo.cell (h : Lo o W b t cs) (i : Nat) : W.cell? ⟨b, i, none⟩ = cs[i]? := h.at_.at_ i
end
/-- a cell of a row of the call's own is written -/
theorem row_putc {w : World} {B e size n : Nat} {g cap : Nat} {xs : List Value} (h : w.ownsRow B e size (.slice (some ⟨g, 0, none⟩) n cap) n xs) (i : Nat) (u : Value) :
    (w.setCell ⟨g, i, none⟩ u).ownsRow B e size (.slice (some ⟨g, 0, none⟩) n cap) n (xs.set i u) ∨ n * size ≤ i := by
  by_cases hi : n * size ≤ i
  · exact .inr hi
  · refine .inl ?_
    rcases h.2 with ⟨h1, _⟩ | ⟨g', cap', cur, h1, hb, hg, r1, r2, r3, r4⟩
    · cases h1
    · cases h1
      refine ⟨by rw [List.length_set]; exact h.1, .inr ⟨g, cap, cur.setIfInBounds i u, rfl, hb, ?_, r1, r2, by rw [Array.size_setIfInBounds]; exact r3, ?_⟩⟩
      · have := Whole.put (show Whole w g e cur from hg) i u
        exact this
      · rw [Array.toList_setIfInBounds, List.take_set, r4]
theorem set_grown (w : World) (p : Addr) (u : Value) : w.grownBy (w.setCell p u) (some p.block) := ⟨rfl, rfl, rfl, by simp [World.setCell], fun k _ hne => Below.heap_setCell _ _ _ _ (fun e => hne (by rw [e]))⟩
theorem own_type {w : World} {B e n size : Nat} {v : Value} {xs : List Value} (h : w.ownsRow B e size v n xs) : ∀ g, v.ownBlock = some g → ∃ cur, w.heap[g]? = some (.cells cur e (0, 0)) := fun g hg => by
  rcases h.2 with ⟨rfl, _⟩ | ⟨g', cap', cur, rfl, hb, hg', _⟩
  · cases hg
  · have : g' = g := by simpa [Value.ownBlock] using hg
    subst this
    exact ⟨cur, hg'⟩
/-- rows of unlike kinds are apart -/
theorem own_apart {w : World} {B e n size B' e' n' size' : Nat} {v v' : Value} {xs xs' : List Value} (h : w.ownsRow B e size v n xs) (h' : w.ownsRow B' e' size' v' n' xs') (hne : e ≠ e') : ∀ q, v.ownBlock = some q → v'.ownBlock ≠ some q := fun q hq hq' => by
  obtain ⟨c, hc⟩ := own_type h q hq
  obtain ⟨c', hc'⟩ := own_type h' q hq'
  rw [hc] at hc'
  cases hc'
  exact hne rfl
theorem whole_apart {w : World} {B e n size g t : Nat} {v : Value} {xs : List Value} {cs : Array Value} (h : w.ownsRow B e size v n xs) (hw : Whole w g t cs) (hne : e ≠ t) : v.ownBlock ≠ some g := fun hq => by
  obtain ⟨c, hc⟩ := own_type h g hq
  rw [show w.heap[g]? = _ from hw] at hc
  cases hc
  exact hne rfl
theorem row_kept {w w' : World} {B e n size : Nat} {v : Value} {xs : List Value} {row : Option Nat} (h : w.ownsRow B e size v n xs) (hg : w.grownBy w' row) (hne : ∀ b, row = some b → v.ownBlock ≠ some b) : w'.ownsRow B e size v n xs := h.kept hg (by
  cases hv : v.ownBlock with
  | none => exact .inl rfl
  | some q => exact .inr fun e => hne q e.symm hv)
theorem whole_kept {w w' : World} {g t : Nat} {cs : Array Value} {row : Option Nat} (h : Whole w g t cs) (hg : w.grownBy w' row) (hne : ∀ b, row = some b → b ≠ g) : Whole w' g t cs := (hg.block g h.lt fun e => hne g e.symm rfl).trans h
end Go.Proofs.YtmomildkopainaaDoor

namespace Go.Proofs.YtmomildkopainaaDoor
open Go.RowKit

/-- tokens behind an address -/
def TokIn (w : World) (o : Option Addr) (l : List Tok) : Prop := ∀ i (h : i < l.length), ∃ b f, o = some ⟨b, f, none⟩ ∧ w.cell? ⟨b, f + i * 3, none⟩ = some (.int .i64 (l[i].1 : Int)) ∧ w.cell? ⟨b, f + i * 3 + 1, none⟩ = some (.int .i64 (l[i].2.1 : Int)) ∧ w.cell? ⟨b, f + i * 3 + 2, none⟩ = some (.int .i64 (l[i].2.2 : Int))
theorem TokIn.tail {w : World} {b f : Nat} {t : Tok} {l : List Tok} (h : TokIn w (some ⟨b, f, none⟩) (t :: l)) : TokIn w (some ⟨b, f + 3, none⟩) l := fun i hi => by
  obtain ⟨b', f', h1, h2, h3, h4⟩ := h (i + 1) (by simp; omega)
  cases h1
  refine ⟨b, f + 3, rfl, ?_⟩
  rw [show f + 3 + i * 3 = f + (i + 1) * 3 by omega]
  exact ⟨h2, h3, h4⟩
/-- a node as it lies: what it is, the slices of its kids and of their pieces -/
structure NV where
  n : JN
  k : Value
  p : Value
def nodeC (x : NV) : List Value := [.int .i64 (x.n.kd : Int), .int .i64 (x.n.a : Int), .int .i64 (x.n.b : Int), .int .i64 (x.n.ka : Int), .int .i64 (x.n.kb : Int), x.k, x.p]
def nodeCells (l : List NV) : List Value := l.flatMap nodeC
def kidC (l : List Nat) : List Value := l.map fun j : Nat => Value.int .i64 (j : Int)
def pcC (l : List (Nat × Nat)) : List Value := l.flatMap fun p => [Value.int .i64 (p.1 : Int), .int .i64 (p.2 : Int)]
theorem nodeCells_len (l : List NV) : (nodeCells l).length = l.length * 7 := by
  induction l with
  | nil => rfl
  | cons x l ih =>
    unfold nodeCells at ih ⊢
    rw [List.flatMap_cons, List.length_append, ih]
    simp [nodeC]
    omega
theorem nodeCells_at (l : List NV) : ∀ (i j : Nat) (h : i < l.length), j < 7 → (nodeCells l)[i * 7 + j]? = (nodeC l[i])[j]? := by
  induction l with
  | nil => intro i j h; exact absurd h (Nat.not_lt_zero _)
  | cons x l ih =>
    intro i j h hj
    unfold nodeCells at ih ⊢
    rw [List.flatMap_cons]
    cases i with
    | zero => rw [List.getElem?_append_left (by simp [nodeC]; omega)]; simp
    | succ i =>
      rw [List.getElem?_append_right (by simp [nodeC]; omega)]
      have := ih i j (by simpa using h) hj
      rw [show (i + 1) * 7 + j - (nodeC x).length = i * 7 + j by simp [nodeC]; omega]
      exact this
theorem nodeCells_set (l : List NV) : ∀ (i j : Nat) (u : Value) (x : NV) (h : i < l.length), j < 7 → nodeC x = (nodeC l[i]).set j u → nodeCells (l.set i x) = (nodeCells l).set (i * 7 + j) u := by
  induction l with
  | nil => intro i j u x h; exact absurd h (Nat.not_lt_zero _)
  | cons y l ih =>
    intro i j u x h hj hx
    unfold nodeCells at ih ⊢
    cases i with
    | zero =>
      rw [List.set_cons_zero, List.flatMap_cons, List.flatMap_cons, List.set_append_left _ _ (by simp [nodeC]; omega), hx]
      simp
    | succ i =>
      rw [List.set_cons_succ, List.flatMap_cons, List.flatMap_cons, List.set_append_right _ _ (by simp [nodeC]; omega), ih i j u x (by simpa using h) hj hx]
      rw [show (i + 1) * 7 + j - (nodeC y).length = i * 7 + j by simp [nodeC]; omega]
/-- what the reader holds -/
structure RS where
  ts : List Tok
  o : Option Addr
  cap : Nat
  nv : List NV
  vN : Value
  wh : Int
  er : Int
def RS.ns (r : RS) : List JN := r.nv.map NV.n
def RS.own (g : Nat) (r : RS) (k : Nat) : Prop := k = g ∨ r.vN.ownBlock = some k ∨ ∃ i, ∃ hi : i < r.nv.length, r.nv[i].k.ownBlock = some k ∨ r.nv[i].p.ownBlock = some k
structure Rd (w0 : World) (g : Nat) (s : ByteArray) (r : RS) (W : World) : Prop where
  blk : Whole W g 66 #[.string s, .slice r.o r.ts.length r.cap, r.vN, .int .i64 r.wh, .int .i64 r.er]
  tk : TokIn w0 r.o r.ts ∧ ∀ t ∈ r.ts, t.2.1 ≤ t.2.2 ∧ t.2.2 ≤ s.size
  tl : r.ts.length ≤ r.cap
  tm : r.cap ≤ maxLen
  nd : W.ownsRow w0.heap.size 53 7 r.vN r.nv.length (nodeCells r.nv)
  kr : ∀ i (hi : i < r.nv.length), W.ownsRow w0.heap.size 3 1 r.nv[i].k r.nv[i].n.kids.length (kidC r.nv[i].n.kids)
  pr : ∀ i (hi : i < r.nv.length), W.ownsRow w0.heap.size 49 2 r.nv[i].p r.nv[i].n.pcs.length (pcC r.nv[i].n.pcs)
  ak : ∀ i j (hi : i < r.nv.length) (hj : j < r.nv.length), i ≠ j → ∀ q, r.nv[i].k.ownBlock = some q → r.nv[j].k.ownBlock ≠ some q
  ap : ∀ i j (hi : i < r.nv.length) (hj : j < r.nv.length), i ≠ j → ∀ q, r.nv[i].p.ownBlock = some q → r.nv[j].p.ownBlock ≠ some q
  bl : Below w0.heap.size w0 W
  gl : w0.heap.size ≤ g
  n4 : r.nv.length ≤ 4096
  kl : ∀ i (hi : i < r.nv.length), r.nv[i].n.kids.length ≤ r.nv.length ∧ r.nv[i].n.pcs.length ≤ r.nv.length
section
variable {w0 W W' : World} {g : Nat} {s : ByteArray} {r : RS}
theorem Rd.own_lt (h : Rd w0 g s r W) : ∀ k, r.own g k → w0.heap.size ≤ k ∧ k < W.heap.size := fun k hk => by
  rcases hk with rfl | hk | ⟨i, hi, hk | hk⟩
  · exact ⟨h.gl, h.blk.lt⟩
  · exact h.nd.lt k hk
  · exact (h.kr i hi).lt k hk
  · exact (h.pr i hi).lt k hk
theorem Rd.grow (h : Rd w0 g s r W) (hb : Below W.heap.size W W') : Rd w0 g s r W' := by
  have hg : W.grownBy W' none := ⟨hb.os, hb.tape, hb.output, hb.size, fun j hj _ => hb.block j hj⟩
  have hn : ∀ (v : Value) (b : Nat), (none : Option Nat) = some b → v.ownBlock ≠ some b := fun v b e => by cases e
  exact ⟨h.blk.grow hb, h.tk, h.tl, h.tm, row_kept h.nd hg (hn _), fun i hi => row_kept (h.kr i hi) hg (hn _), fun i hi => row_kept (h.pr i hi) hg (hn _), h.ak, h.ap, h.bl.trans (hb.mono h.bl.size), h.gl, h.n4, h.kl⟩
/-- the blocks of the nodes' rows are no others -/
theorem Rd.ng (h : Rd w0 g s r W) : r.vN.ownBlock ≠ some g := whole_apart h.nd h.blk (by decide)
theorem Rd.kg (h : Rd w0 g s r W) {i : Nat} (hi : i < r.nv.length) : r.nv[i].k.ownBlock ≠ some g := whole_apart (h.kr i hi) h.blk (by decide)
theorem Rd.pg (h : Rd w0 g s r W) {i : Nat} (hi : i < r.nv.length) : r.nv[i].p.ownBlock ≠ some g := whole_apart (h.pr i hi) h.blk (by decide)
/-- a field of the reader is written -/
theorem Rd.put (h : Rd w0 g s r W) (i : Nat) (u : Value) : (W.setCell ⟨g, i, none⟩ u).ownsRow w0.heap.size 53 7 r.vN r.nv.length (nodeCells r.nv) ∧
    (∀ j (hj : j < r.nv.length), (W.setCell ⟨g, i, none⟩ u).ownsRow w0.heap.size 3 1 r.nv[j].k r.nv[j].n.kids.length (kidC r.nv[j].n.kids)) ∧ (∀ j (hj : j < r.nv.length), (W.setCell ⟨g, i, none⟩ u).ownsRow w0.heap.size 49 2 r.nv[j].p r.nv[j].n.pcs.length (pcC r.nv[j].n.pcs)) ∧ Below w0.heap.size w0 (W.setCell ⟨g, i, none⟩ u) := by
  have hg := set_grown W ⟨g, i, none⟩ u
  have hne : ∀ (v : Value), v.ownBlock ≠ some g → ∀ b, some (⟨g, i, none⟩ : Addr).block = some b → v.ownBlock ≠ some b := fun v hv b e => by cases e; exact hv
  exact ⟨row_kept h.nd hg (hne _ h.ng), fun j hj => row_kept (h.kr j hj) hg (hne _ (h.kg hj)), fun j hj => row_kept (h.pr j hj) hg (hne _ (h.pg hj)), h.bl.setCell h.gl u⟩
theorem Fr.put (r : RS) (g : Nat) (W : World) (i : Nat) (u : Value) : Fr (r.own g) (r.own g) W (W.setCell ⟨g, i, none⟩ u) := (Fr.refl _ _).set (.inl rfl) u
/-- the reader goes behind a token -/
theorem Rd.next (h : Rd w0 g s r W) {l : List Tok} {o' : Option Addr} {cap' : Nat} (hl : l.length ≤ cap') (hm : cap' ≤ maxLen) (ho : TokIn w0 o' l ∧ ∀ t ∈ l, t.2.1 ≤ t.2.2 ∧ t.2.2 ≤ s.size) : Rd w0 g s { r with ts := l, o := o', cap := cap' } (W.setCell ⟨g, 1, none⟩ (.slice o' l.length cap')) := by
  obtain ⟨h1, h2, h3, h4⟩ := h.put 1 (.slice o' l.length cap')
  exact ⟨h.blk.put 1 _, ho, hl, hm, h1, h2, h3, h.ak, h.ap, h4, h.gl, h.n4, h.kl⟩
/-- what is wrong is kept -/
theorem Rd.fail (h : Rd w0 g s r W) (wh er : Int) : Rd w0 g s { r with wh := wh, er := er } ((W.setCell ⟨g, 4, none⟩ (.int .i64 er)).setCell ⟨g, 3, none⟩ (.int .i64 wh)) := by
  obtain ⟨h1, h2, h3, h4⟩ := h.put 4 (.int .i64 er)
  have hr1 : Rd w0 g s { r with er := er } (W.setCell ⟨g, 4, none⟩ (.int .i64 er)) := ⟨h.blk.put 4 _, h.tk, h.tl, h.tm, h1, h2, h3, h.ak, h.ap, h4, h.gl, h.n4, h.kl⟩
  obtain ⟨k1, k2, k3, k4⟩ := hr1.put 3 (.int .i64 wh)
  exact ⟨hr1.blk.put 3 _, h.tk, h.tl, h.tm, k1, k2, k3, h.ak, h.ap, k4, h.gl, h.n4, h.kl⟩
theorem Fr.fail (r : RS) (g : Nat) (W : World) (wh er : Int) : Fr (r.own g) (r.own g) W ((W.setCell ⟨g, 4, none⟩ (.int .i64 er)).setCell ⟨g, 3, none⟩ (.int .i64 wh)) := ((Fr.refl _ _).set (.inl rfl) _).set (.inl rfl) _
def newN (n : JN) : NV := ⟨n, .slice none 0 0, .slice none 0 0⟩
def RS.app (r : RS) (n : JN) (v' : Value) : RS := { r with nv := r.nv ++ [newN n], vN := v' }
/-- one node more: the row as append leaves it -/
theorem Rd.app (h : Rd w0 g s r W) {n : JN} {v' : Value} (hk : n.kids = []) (hp : n.pcs = []) (h4 : r.nv.length < 4096) (hown : W'.ownsRow w0.heap.size 53 7 v' (r.nv.length + 1) (nodeCells (r.nv ++ [newN n]))) (hg : W.grownBy W' r.vN.ownBlock) (hat : v'.ownBlock = r.vN.ownBlock ∨ v'.ownBlock = some W.heap.size) :
    Rd w0 g s (r.app n v') (W'.setCell ⟨g, 2, none⟩ v') ∧ Fr (r.own g) ((r.app n v').own g) W (W'.setCell ⟨g, 2, none⟩ v') := by
  have hblk : Whole W' g 66 #[.string s, .slice r.o r.ts.length r.cap, r.vN, .int .i64 r.wh, .int .i64 r.er] := whole_kept h.blk hg fun b e hb => h.ng (by rw [e, hb])
  have hg2 := set_grown W' ⟨g, 2, none⟩ v'
  have hkk : ∀ i (hi : i < r.nv.length), (W'.setCell ⟨g, 2, none⟩ v').ownsRow w0.heap.size 3 1 r.nv[i].k r.nv[i].n.kids.length (kidC r.nv[i].n.kids) := fun i hi => row_kept (row_kept (h.kr i hi) hg fun b e => own_apart h.nd (h.kr i hi) (by decide) b e) hg2 fun b e => by cases e; exact h.kg hi
  have hpp : ∀ i (hi : i < r.nv.length), (W'.setCell ⟨g, 2, none⟩ v').ownsRow w0.heap.size 49 2 r.nv[i].p r.nv[i].n.pcs.length (pcC r.nv[i].n.pcs) := fun i hi => row_kept (row_kept (h.pr i hi) hg fun b e => own_apart h.nd (h.pr i hi) (by decide) b e) hg2 fun b e => by cases e; exact h.pg hi
  have hv'g : v'.ownBlock ≠ some g := whole_apart hown hblk (by decide)
  have hbl : Below w0.heap.size w0 (W'.setCell ⟨g, 2, none⟩ v') := (h.bl.grown hg h.bl.size fun k e => (h.nd.lt k e).1).setCell h.gl v'
  have hcs : ∀ i (hi : i < (r.nv ++ [newN n]).length), (∃ hi' : i < r.nv.length, (r.nv ++ [newN n])[i] = r.nv[i]) ∨ (r.nv ++ [newN n])[i] = newN n := fun i hi => by
    by_cases hlt : i < r.nv.length
    · exact .inl ⟨hlt, List.getElem_append_left hlt⟩
    · refine .inr ?_
      rw [List.getElem_append_right (by omega)]
      simp
  have hnew : ∀ q, ¬ ((newN n).k.ownBlock = some q ∨ (newN n).p.ownBlock = some q) := fun q hq => by rcases hq with hq | hq <;> cases hq
  refine ⟨⟨hblk.put 2 _, h.tk, h.tl, h.tm, ?_, ?_, ?_, ?_, ?_, hbl, h.gl, ?_, ?_⟩, ?_⟩
  · have e : (r.app n v').nv.length = r.nv.length + 1 := by unfold RS.app; simp
    rw [e]
    exact row_kept hown hg2 fun b e => by cases e; exact hv'g
  · intro i hi
    rcases hcs i hi with ⟨hi', e⟩ | e
    · rw [show (r.app n v').nv[i] = r.nv[i] from e]; exact hkk i hi'
    · rw [show (r.app n v').nv[i] = newN n from e]; simp only [newN, hk]; exact World.ownsRow_nil _ _ _ _
  · intro i hi
    rcases hcs i hi with ⟨hi', e⟩ | e
    · rw [show (r.app n v').nv[i] = r.nv[i] from e]; exact hpp i hi'
    · rw [show (r.app n v').nv[i] = newN n from e]; simp only [newN, hp]; exact World.ownsRow_nil _ _ _ _
  · intro i j hi hj hne q hq hq'
    simp only [RS.app] at hi hj hq hq'
    rcases hcs i hi with ⟨hi', e⟩ | e
    · rcases hcs j hj with ⟨hj', e2⟩ | e2
      · rw [e] at hq; rw [e2] at hq'; exact h.ak i j hi' hj' hne q hq hq'
      · rw [e2] at hq'; exact hnew q (.inl hq')
    · rw [e] at hq; exact hnew q (.inl hq)
  · intro i j hi hj hne q hq hq'
    simp only [RS.app] at hi hj hq hq'
    rcases hcs i hi with ⟨hi', e⟩ | e
    · rcases hcs j hj with ⟨hj', e2⟩ | e2
      · rw [e] at hq; rw [e2] at hq'; exact h.ap i j hi' hj' hne q hq hq'
      · rw [e2] at hq'; exact hnew q (.inr hq')
    · rw [e] at hq; exact hnew q (.inr hq)
  · unfold RS.app; rw [List.length_append, List.length_singleton]; exact h4
  · intro i hi
    have el : (r.app n v').nv.length = r.nv.length + 1 := by unfold RS.app; simp
    rw [el]
    rcases hcs i hi with ⟨hi', e⟩ | e
    · rw [show (r.app n v').nv[i] = r.nv[i] from e]; have := h.kl i hi'; omega
    · rw [show (r.app n v').nv[i] = newN n from e]; simp [newN, hk, hp]
  · have hown' : ∀ k, (r.app n v').own g k → r.own g k ∨ W.heap.size ≤ k := fun k hk => by
      rcases hk with rfl | hk | ⟨i, hi, hk⟩
      · exact .inl (.inl rfl)
      · rcases hat with e | e
        · exact .inl (.inr (.inl (e.symm.trans hk)))
        · have hk2 : v'.ownBlock = some k := hk
          rw [e] at hk2
          exact .inr (Nat.le_of_eq (Option.some.inj hk2))
      · simp only [RS.app] at hi hk
        rcases hcs i hi with ⟨hi', e⟩ | e
        · rw [e] at hk; exact .inl (.inr (.inr ⟨i, hi', hk⟩))
        · rw [e] at hk; exact absurd hk (hnew k)
    exact ((Fr.refl _ _).grown hg (fun k e => .inr (.inl e)) hown').set (.inl rfl) v'
/-- the cells of a node -/
theorem Rd.node (h : Rd w0 g s r W) {k : Nat} (hk : k < r.nv.length) : ∃ gN cap, r.vN = .slice (some ⟨gN, 0, none⟩) r.nv.length cap ∧ r.nv.length ≤ cap ∧ cap ≤ maxLen ∧ (∀ o, W.frozen? ⟨gN, o, none⟩ = false) ∧ ∀ j, j < 7 → W.cell? ⟨gN, k * 7 + j, none⟩ = (nodeC r.nv[k])[j]? := by
  rcases h.nd.2 with ⟨_, h0⟩ | ⟨gN, cap, cur, hv, hg, hh, hc, hm, _⟩
  · omega
  · refine ⟨gN, cap, hv, hc, hm, fun o => frozen_of_row W gN o cur _ hh, fun j hj => ?_⟩
    have hcl := h.nd.cells (g := gN) (by rw [hv]; rfl) (k * 7 + j)
    have ha := nodeCells_at r.nv k j hk hj
    have e1 : (⟨gN, 0, none⟩ : Addr).add (k * 7 + j) = ⟨gN, k * 7 + j, none⟩ := by rw [Addr.add_lit, Nat.zero_add]
    rw [e1, ha] at hcl
    cases hx : (nodeC r.nv[k])[j]? with
    | none =>
      have := List.getElem?_eq_none_iff.1 hx
      simp [nodeC] at this
      omega
    | some u => exact hcl u hx
def RS.upd (r : RS) (k : Nat) (x : NV) : RS := { r with nv := r.nv.set k x }
/-- a node is turned in one cell, behind its kids' or pieces' row -/
theorem Rd.upd (h : Rd w0 g s r W) {k : Nat} (hk : k < r.nv.length) {x : NV} {j : Nat} {u : Value} {row : Option Nat} {gN cap : Nat} (hvN : r.vN = .slice (some ⟨gN, 0, none⟩) r.nv.length cap) (hj : j < 7) (hx : nodeC x = (nodeC r.nv[k]).set j u) (hg : W.grownBy W' row)
    (hrow : row = none ∨ (row = r.nv[k].k.ownBlock ∧ x.p = r.nv[k].p ∧ x.n.pcs = r.nv[k].n.pcs) ∨ (row = r.nv[k].p.ownBlock ∧ x.k = r.nv[k].k ∧ x.n.kids = r.nv[k].n.kids))
    (hkr : W'.ownsRow w0.heap.size 3 1 x.k x.n.kids.length (kidC x.n.kids)) (hpr : W'.ownsRow w0.heap.size 49 2 x.p x.n.pcs.length (pcC x.n.pcs))
    (hak : x.k.ownBlock = r.nv[k].k.ownBlock ∨ x.k.ownBlock = some W.heap.size) (hap : x.p.ownBlock = r.nv[k].p.ownBlock ∨ x.p.ownBlock = some W.heap.size) (hkl : x.n.kids.length ≤ r.nv.length ∧ x.n.pcs.length ≤ r.nv.length) :
    Rd w0 g s (r.upd k x) (W'.setCell ⟨gN, k * 7 + j, none⟩ u) ∧ Fr (r.own g) ((r.upd k x).own g) W (W'.setCell ⟨gN, k * 7 + j, none⟩ u) := by
  have hNo : r.vN.ownBlock = some gN := by rw [hvN]; rfl
  have hg2 := set_grown W' ⟨gN, k * 7 + j, none⟩ u
  have hrowo : ∀ b, row = some b → r.own g b := fun b e => by
    rcases hrow with e2 | ⟨e2, _⟩ | ⟨e2, _⟩
    · rw [e2] at e; cases e
    · exact .inr (.inr ⟨k, hk, .inl (e2.symm.trans e)⟩)
    · exact .inr (.inr ⟨k, hk, .inr (e2.symm.trans e)⟩)
  have hrg : ∀ b, row = some b → b ≠ g := fun b e hb => by
    subst hb
    rcases hrow with e2 | ⟨e2, _⟩ | ⟨e2, _⟩
    · rw [e2] at e; cases e
    · exact h.kg hk (e2.symm.trans e)
    · exact h.pg hk (e2.symm.trans e)
  have hrn : ∀ b, row = some b → r.vN.ownBlock ≠ some b := fun b e => by
    rcases hrow with e2 | ⟨e2, _⟩ | ⟨e2, _⟩
    · rw [e2] at e; cases e
    · exact fun e3 => own_apart (h.kr k hk) h.nd (by decide) b (e2.symm.trans e) e3
    · exact fun e3 => own_apart (h.pr k hk) h.nd (by decide) b (e2.symm.trans e) e3
  have hnd' : W'.ownsRow w0.heap.size 53 7 r.vN r.nv.length (nodeCells r.nv) := row_kept h.nd hg hrn
  have hki : ∀ i (hi : i < r.nv.length), i ≠ k → W'.ownsRow w0.heap.size 3 1 r.nv[i].k r.nv[i].n.kids.length (kidC r.nv[i].n.kids) := fun i hi hne => row_kept (h.kr i hi) hg fun b e => by
    rcases hrow with e2 | ⟨e2, _⟩ | ⟨e2, _⟩
    · rw [e2] at e; cases e
    · exact h.ak k i hk hi (Ne.symm hne) b (e2.symm.trans e)
    · exact own_apart (h.pr k hk) (h.kr i hi) (by decide) b (e2.symm.trans e)
  have hpi : ∀ i (hi : i < r.nv.length), i ≠ k → W'.ownsRow w0.heap.size 49 2 r.nv[i].p r.nv[i].n.pcs.length (pcC r.nv[i].n.pcs) := fun i hi hne => row_kept (h.pr i hi) hg fun b e => by
    rcases hrow with e2 | ⟨e2, _⟩ | ⟨e2, _⟩
    · rw [e2] at e; cases e
    · exact own_apart (h.kr k hk) (h.pr i hi) (by decide) b (e2.symm.trans e)
    · exact h.ap k i hk hi (Ne.symm hne) b (e2.symm.trans e)
  have hs : ∀ {e size n : Nat} {v : Value} {xs : List Value}, W'.ownsRow w0.heap.size e size v n xs → e ≠ 53 → (W'.setCell ⟨gN, k * 7 + j, none⟩ u).ownsRow w0.heap.size e size v n xs := fun ho hne => row_kept ho hg2 fun b e => by
    cases e
    exact fun e3 => own_apart ho hnd' hne gN e3 hNo
  have hlen : (r.upd k x).nv.length = r.nv.length := List.length_set ..
  have hget : ∀ i (hi : i < (r.upd k x).nv.length), (i = k ∧ (r.upd k x).nv[i] = x) ∨ (i ≠ k ∧ ∃ hi' : i < r.nv.length, (r.upd k x).nv[i] = r.nv[i]) := fun i hi => by
    by_cases e : i = k
    · subst e
      exact .inl ⟨rfl, List.getElem_set_self (l := r.nv) (by rw [List.length_set]; exact hk)⟩
    · refine .inr ⟨e, by rw [hlen] at hi; exact hi, ?_⟩
      exact List.getElem_set_ne (l := r.nv) (fun e2 => e e2.symm) (by rw [List.length_set]; rw [hlen] at hi; exact hi)
  have hblk : Whole (W'.setCell ⟨gN, k * 7 + j, none⟩ u) g 66 #[.string s, .slice r.o r.ts.length r.cap, r.vN, .int .i64 r.wh, .int .i64 r.er] := whole_kept (whole_kept h.blk hg hrg) hg2 fun b e hb => by
    cases e
    exact h.ng (hNo.trans (congrArg some hb))
  have hgNl : w0.heap.size ≤ gN := (h.nd.lt gN hNo).1
  have hsz := hg.size
  refine ⟨⟨hblk, h.tk, h.tl, h.tm, ?_, ?_, ?_, ?_, ?_, ?_, h.gl, by rw [hlen]; exact h.n4, ?_⟩, ?_⟩
  · show (W'.setCell ⟨gN, k * 7 + j, none⟩ u).ownsRow w0.heap.size 53 7 r.vN (r.upd k x).nv.length (nodeCells (r.nv.set k x))
    rw [hlen, nodeCells_set r.nv k j u x hk hj hx]
    rw [hvN] at hnd' ⊢
    rcases row_putc hnd' (k * 7 + j) u with h1 | h1
    · exact h1
    · omega
  · intro i hi
    rcases hget i hi with ⟨_, e⟩ | ⟨hne, hi', e⟩
    · rw [e]; exact hs hkr (by decide)
    · rw [e]; exact hs (hki i hi' hne) (by decide)
  · intro i hi
    rcases hget i hi with ⟨_, e⟩ | ⟨hne, hi', e⟩
    · rw [e]; exact hs hpr (by decide)
    · rw [e]; exact hs (hpi i hi' hne) (by decide)
  · intro i i' hi hi' hne q hq hq'
    rcases hget i hi with ⟨e0, e⟩ | ⟨hne1, hi1, e⟩ <;> rcases hget i' hi' with ⟨e0', e'⟩ | ⟨hne2, hi2, e'⟩
    · omega
    · rw [e] at hq; rw [e'] at hq'
      rcases hak with ea | ea
      · exact h.ak k i' hk hi2 (fun e => hne2 e.symm) q (ea.symm.trans hq) hq'
      · have := ((h.kr i' hi2).lt q hq').2
        rw [ea] at hq
        have := Option.some.inj hq
        omega
    · rw [e] at hq; rw [e'] at hq'
      rcases hak with ea | ea
      · exact h.ak i k hi1 hk hne1 q hq (ea.symm.trans hq')
      · have := ((h.kr i hi1).lt q hq).2
        rw [ea] at hq'
        have := Option.some.inj hq'
        omega
    · rw [e] at hq; rw [e'] at hq'
      exact h.ak i i' hi1 hi2 hne q hq hq'
  · intro i i' hi hi' hne q hq hq'
    rcases hget i hi with ⟨e0, e⟩ | ⟨hne1, hi1, e⟩ <;> rcases hget i' hi' with ⟨e0', e'⟩ | ⟨hne2, hi2, e'⟩
    · omega
    · rw [e] at hq; rw [e'] at hq'
      rcases hap with ea | ea
      · exact h.ap k i' hk hi2 (fun e => hne2 e.symm) q (ea.symm.trans hq) hq'
      · have := ((h.pr i' hi2).lt q hq').2
        rw [ea] at hq
        have := Option.some.inj hq
        omega
    · rw [e] at hq; rw [e'] at hq'
      rcases hap with ea | ea
      · exact h.ap i k hi1 hk hne1 q hq (ea.symm.trans hq')
      · have := ((h.pr i hi1).lt q hq).2
        rw [ea] at hq'
        have := Option.some.inj hq'
        omega
    · rw [e] at hq; rw [e'] at hq'
      exact h.ap i i' hi1 hi2 hne q hq hq'
  · exact (h.bl.grown hg h.bl.size fun b e => (h.own_lt b (hrowo b e)).1).setCell hgNl u
  · intro i hi
    rw [hlen]
    rcases hget i hi with ⟨_, e⟩ | ⟨hne, hi', e⟩
    · rw [e]; exact hkl
    · rw [e]; exact h.kl i hi'
  · have hown' : ∀ b, (r.upd k x).own g b → r.own g b ∨ W.heap.size ≤ b := fun b hb => by
      rcases hb with rfl | hb | ⟨i, hi, hb⟩
      · exact .inl (.inl rfl)
      · exact .inl (.inr (.inl hb))
      · rcases hget i hi with ⟨_, e⟩ | ⟨hne, hi', e⟩
        · rw [e] at hb
          rcases hb with hb | hb
          · rcases hak with ea | ea
            · exact .inl (.inr (.inr ⟨k, hk, .inl (ea.symm.trans hb)⟩))
            · rw [ea] at hb; exact .inr (Nat.le_of_eq (Option.some.inj hb))
          · rcases hap with ea | ea
            · exact .inl (.inr (.inr ⟨k, hk, .inr (ea.symm.trans hb)⟩))
            · rw [ea] at hb; exact .inr (Nat.le_of_eq (Option.some.inj hb))
        · rw [e] at hb
          exact .inl (.inr (.inr ⟨i, hi', hb⟩))
    have hmem : (r.upd k x).own g (⟨gN, k * 7 + j, none⟩ : Addr).block := .inr (.inl hNo)
    exact ((Fr.refl _ _).grown hg hrowo hown').set hmem u
end
end Go.Proofs.YtmomildkopainaaDoor

namespace Go.Proofs.YtmomildkopainaaDoor
open Go.RowKit

theorem Rd.cells {w0 W : World} {g : Nat} {s : ByteArray} {r : RS} (h : Rd w0 g s r W) : W.cell? ⟨g, 0, none⟩ = some (.string s) ∧ W.cell? ⟨g, 1, none⟩ = some (.slice r.o r.ts.length r.cap) ∧ W.cell? ⟨g, 2, none⟩ = some r.vN ∧ W.cell? ⟨g, 3, none⟩ = some (.int .i64 r.wh) ∧ W.cell? ⟨g, 4, none⟩ = some (.int .i64 r.er) ∧ ∀ i, W.frozen? ⟨g, i, none⟩ = false :=
  ⟨h.blk.at_ 0, h.blk.at_ 1, h.blk.at_ 2, h.blk.at_ 3, h.blk.at_ 4, h.blk.free⟩
theorem cell_blk' {w : World} {a : Addr} {v : Value} (h : w.cell? a = some v) : a.block < w.heap.size := World.block_lt_of_cell? w a h
/-- a block of three cells is written whole -/
def set3 (w : World) (b : Nat) (u0 u1 u2 : Value) : World := ((w.setCell ⟨b, 0, none⟩ u0).setCell ⟨b, 1, none⟩ u1).setCell ⟨b, 2, none⟩ u2
theorem whole_set3 {w : World} {b : Nat} {T : TypeId} {x y z : Value} (h : Whole w b T #[x, y, z]) (u0 u1 u2 : Value) : Whole (set3 w b u0 u1 u2) b T #[u0, u1, u2] := ((h.put 0 u0).put 1 u1).put 2 u2
/-- a block that is none of the reader's is written -/
theorem Rd.far {w0 W : World} {g : Nat} {s : ByteArray} {r : RS} (h : Rd w0 g s r W) {p : Addr} (hp : ¬ r.own g p.block) (hb : w0.heap.size ≤ p.block) (u : Value) : Rd w0 g s r (W.setCell p u) := by
  have hg := set_grown W p u
  refine ⟨h.blk.far (fun e => hp (.inl e.symm)) u, h.tk, h.tl, h.tm, ?_, ?_, ?_, h.ak, h.ap, h.bl.setCell hb u, h.gl, h.n4, h.kl⟩
  · exact row_kept h.nd hg fun b e e2 => by cases e; exact hp (.inr (.inl e2))
  · exact fun i hi => row_kept (h.kr i hi) hg fun b e e2 => by cases e; exact hp (.inr (.inr ⟨i, hi, .inl e2⟩))
  · exact fun i hi => row_kept (h.pr i hi) hg fun b e e2 => by cases e; exact hp (.inr (.inr ⟨i, hi, .inr e2⟩))
theorem Fr.new {o o' : Nat → Prop} {W W' : World} (h : Fr o o' W W') {p : Addr} (hp : W.heap.size ≤ p.block) (u : Value) : Fr o o' W (W'.setCell p u) :=
  ⟨h.os, h.tape, h.output, Nat.le_trans h.size (by simp [World.setCell]), fun k hk hn => (Below.heap_setCell _ _ _ _ (by omega)).trans (h.block k hk hn), h.own⟩
theorem Rd.far3 {w0 W : World} {g : Nat} {s : ByteArray} {r : RS} (h : Rd w0 g s r W) {b : Nat} (hp : ¬ r.own g b) (hb : w0.heap.size ≤ b) (u0 u1 u2 : Value) : Rd w0 g s r (set3 W b u0 u1 u2) := ((h.far (p := ⟨b, 0, none⟩) hp hb u0).far (p := ⟨b, 1, none⟩) hp hb u1).far (p := ⟨b, 2, none⟩) hp hb u2
theorem Fr.new3 {o o' : Nat → Prop} {W W' : World} (h : Fr o o' W W') {b : Nat} (hp : W.heap.size ≤ b) (u0 u1 u2 : Value) : Fr o o' W (set3 W' b u0 u1 u2) := ((h.new (p := ⟨b, 0, none⟩) hp u0).new (p := ⟨b, 1, none⟩) hp u1).new (p := ⟨b, 2, none⟩) hp u2
def RS.at (r : RS) (ts : List Tok) (o : Option Addr) (cap : Nat) : RS := { r with ts := ts, o := o, cap := cap }
def RS.bad (r : RS) (wh er : Int) : RS := { r with wh := wh, er := er }
/-- the reader goes behind its first token: the row's rest, as reslicing leaves it -/
theorem Rd.tail {w0 W : World} {g : Nat} {s : ByteArray} {r : RS} {t : Tok} {l : List Tok} {o : Option Addr} {cap : Nat} (h : Rd w0 g s (r.at (t :: l) o cap) W) :
    ∃ b f A, o = some ⟨b, f, none⟩ ∧ (if cap = 1 then some (⟨b, f, none⟩ : Addr) else some ⟨b, f + 3, none⟩) = A ∧ l.length + 1 ≤ cap ∧ Rd w0 g s (r.at l A (cap - 1)) (W.setCell ⟨g, 1, none⟩ (.slice A l.length (cap - 1))) := by
  obtain ⟨b, f, ho, _⟩ := h.tk.1 0 (by simp [RS.at])
  simp only [RS.at] at ho
  subst ho
  have hcap := h.tl
  have hcm := h.tm
  simp only [RS.at, List.length_cons] at hcap hcm
  refine ⟨b, f, _, rfl, rfl, hcap, h.next (l := l) (cap' := cap - 1) (by omega) (by unfold maxLen at *; omega) ⟨?_, fun t ht => h.tk.2 t (List.mem_cons_of_mem _ ht)⟩⟩
  split
  · rename_i h1
    have : l = [] := List.eq_nil_of_length_eq_zero (by omega)
    subst this
    exact fun i hi => absurd hi (Nat.not_lt_zero _)
  · exact TokIn.tail h.tk.1
theorem nbl_cons (t : Tok) (l : List Tok) : nbl (t :: l) = if t.1 = 1 then nbl l else t :: nbl l := by
  unfold nbl
  rw [List.filter_cons]
  by_cases h : t.1 = 1
  · rw [if_pos h, if_neg (by simp [h])]
  · rw [if_neg h, if_pos (by simp [h])]
/-- what next answers -/
def nextV : List Tok → Value
  | [] => .tuple #[.agg #[.int .i64 0, .int .i64 0, .int .i64 0], .bool false]
  | t :: _ => .tuple #[.agg #[.int .i64 (t.1 : Int), .int .i64 (t.2.1 : Int), .int .i64 (t.2.2 : Int)], .bool true]
/-- the reader stands at a token that is no blank, or at the end -/
def Stands (ts : List Tok) : Prop := ts = [] ∨ ∃ t l, ts = t :: l ∧ t.1 ≠ 1
def NextPost (w0 : World) (g : Nat) (s : ByteArray) (r : RS) (W : World) (e : Ending) (W' : World) : Prop :=
  ∃ ts o cap, e = .returned (nextV ts) ∧ Rd w0 g s (r.at ts o cap) W' ∧ Fr (r.own g) (r.own g) W W' ∧ nbl ts = nbl r.ts ∧ Stands ts

set_option maxHeartbeats 1000000 in
set_option maxRecDepth 1000000 in
theorem jfail_any {w0 W : World} {g : Nat} {s : ByteArray} {r : RS} (h : Rd w0 g s r W) (er wh : Int) :
    Calls Tryd.prog 51 #[.pointer (some ⟨g, 0, none⟩), .int .i64 er, .int .i64 wh] W fun e W' => e = .returned (.bool false) ∧ Rd w0 g s (r.bad wh er) W' ∧ Fr (r.own g) (r.own g) W W' := by
  have HR := hq (h.fail wh er)
  have HF := hq (Fr.fail r g W wh er)
  obtain ⟨c0, c1, c2, c3, c4, cf⟩ := h.cells
  have c3' : (W.setCell ⟨g, 4, none⟩ (.int .i64 er)).cell? ⟨g, 3, none⟩ = some (.int .i64 r.wh) := (h.blk.put 4 (.int .i64 er)).at_ 3
  have cf' : ∀ i, (W.setCell ⟨g, 4, none⟩ (.int .i64 er)).frozen? ⟨g, i, none⟩ = false := (h.blk.put 4 (.int .i64 er)).free
  clear h
  go_enter Tryd.func51, Tryd.ntmps51
  go_wp2_with fail
  go_ret
  exact ⟨rfl, HR.o, HF.o⟩

set_option maxHeartbeats 1000000 in
set_option maxRecDepth 1000000 in
theorem jnext_any {w0 W : World} {g : Nat} {s : ByteArray} {r : RS} (h : Rd w0 g s r W) :
    Calls Tryd.prog 30 #[.pointer (some ⟨g, 0, none⟩)] W (NextPost w0 g s r W) := by
  have HR := hq h
  have HP : Hq (∀ ts o cap W', Rd w0 g s (r.at ts o cap) W' → Fr (r.own g) (r.own g) W W' → nbl ts = nbl r.ts → Stands ts → NextPost w0 g s r W (.returned (nextV ts)) W') := hq (fun ts o cap W' h1 h2 h3 h4 => ⟨ts, o, cap, rfl, h1, h2, h3, h4⟩)
  have hgl := h.blk.lt
  clear h
  generalize hPP : NextPost w0 g s r W = PP at *
  clear hPP
  go_enter Tryd.func30, Tryd.ntmps30
  go_wp2_with fail
  go_loopg [] r.ts.length (fun k wr => ∃ ts o cap, ts.length ≤ k ∧ Hq (Rd w0 g s (r.at ts o cap) wr ∧ Fr (r.own g) (r.own g) W wr ∧ nbl ts = nbl r.ts ∧ Whole wr W.heap.size 61 #[.int .i64 0, .int .i64 0, .int .i64 0]))
  case atStart => exact ⟨r.ts, r.o, r.cap, Nat.le_refl _, hq ⟨HR.o.grow (below_alloc W _), Fr.of_below _ (below_alloc W _), rfl, Whole.made W _ _⟩⟩
  case round =>
    obtain ⟨ts, o, cap, hk, hR⟩ := hrel
    obtain ⟨c0, c1, _, _, _, cf⟩ := hR.o.1.cells
    simp only [RS.at] at c1
    have cZ0 := hR.o.2.2.2.at_ 0
    have cZ1 := hR.o.2.2.2.at_ 1
    have cZ2 := hR.o.2.2.2.at_ 2
    have hnz := hR.o.2.2.2.free
    cases ts with
    | nil =>
      have hno : ¬ r.own g W.heap.size := fun ho => by have := (HR.o.own_lt _ ho).2; omega
      have hwl : w0.heap.size ≤ W.heap.size := HR.o.bl.size
      have HS := hq (whole_set3 hR.o.2.2.2 (.int .i64 0) (.int .i64 0) (.int .i64 0))
      have HV := hq (HP.o [] o cap _ (hR.o.1.far3 hno hwl (.int .i64 0) (.int .i64 0) (.int .i64 0)) (hR.o.2.1.new3 (Nat.le_refl _) _ _ _) hR.o.2.2.1 (.inl rfl))
      have z0 := HS.o.at_ 0
      have z1 := HS.o.at_ 1
      have z2 := HS.o.at_ 2
      unfold set3 at z0 z1 z2 HV
      have HZ := hq (And.intro z0 (And.intro z1 z2))
      clear HR z0 z1 z2 HS
      go_wp2_with fail
      refine bodyPost_ret (v := nextV []) ?_ rfl HV.o
      obtain ⟨z0, z1, z2⟩ := HZ.o
      simp [results, Tryd.results30, go_sem, z0, z1, z2, nextV]
    | cons t l =>
      obtain ⟨b, f, ho, t0, t1, t2⟩ := hR.o.1.tk.1 0 (by simp [RS.at])
      simp only [RS.at, List.getElem_cons_zero] at ho t0 t1 t2
      subst ho
      have hbw := hR.o.1.bl
      replace t0 := (hbw.cell (cell_blk' t0)).trans t0
      replace t1 := (hbw.cell (cell_blk' t1)).trans t1
      replace t2 := (hbw.cell (cell_blk' t2)).trans t2
      rw [Nat.zero_mul, Nat.add_zero] at t0 t1 t2
      have hcap := hR.o.1.tl
      have hcm := hR.o.1.tm
      simp only [RS.at, List.length_cons] at hcap hcm c1
      obtain ⟨m, hm⟩ : ∃ m, m = l.length + 1 := ⟨_, rfl⟩
      rw [← hm] at c1
      have hm0 : 0 < m := by omega
      have hmz : (0 : Int) < (m : Int) := by omega
      have hm1 : 1 ≤ m := by omega
      have hml : m - 1 = l.length := by omega
      have hno : ¬ r.own g W.heap.size := fun ho => by have := (HR.o.own_lt _ ho).2; omega
      have hwl : w0.heap.size ≤ W.heap.size := HR.o.bl.size
      clear hm hbw HR
      obtain ⟨t', ta, tb⟩ := t
      simp only at t0 t1 t2
      by_cases hb : t' = 1
      · subst hb
        obtain ⟨A, hA⟩ : ∃ A : Option Addr, (if cap = 1 then some (⟨b, f, none⟩ : Addr) else some ⟨b, f + 3, none⟩) = A := ⟨_, rfl⟩
        have HN := hq (hR.o.1.next (l := l) (o' := A) (cap' := cap - 1) (by omega) (by unfold maxLen at *; omega) ⟨by
          rw [← hA]
          split
          · rename_i h1
            have : l = [] := List.eq_nil_of_length_eq_zero (by omega)
            subst this
            exact fun i hi => absurd hi (Nat.not_lt_zero _)
          · exact TokIn.tail hR.o.1.tk.1, fun t ht => hR.o.1.tk.2 t (List.mem_cons_of_mem _ ht)⟩)
        have HF := hq (hR.o.2.1.trans (Fr.put r g wr 1 (.slice A l.length (cap - 1))))
        have HNB : Hq (nbl l = nbl r.ts) := hq (by have h := hR.o.2.2.1; rw [nbl_cons, if_pos rfl] at h; exact h)
        have HWW : Hq (Whole (wr.setCell ⟨g, 1, none⟩ (.slice A l.length (cap - 1))) W.heap.size 61 #[.int .i64 0, .int .i64 0, .int .i64 0]) := hq (hR.o.2.2.2.far (p := ⟨g, 1, none⟩) (by simp only; omega) _)
        clear hR
        go_wp2_with fail
        go_roundg l.length
        case measure => simp only [List.length_cons] at hk; omega
        case rel => exact ⟨l, A, cap - 1, Nat.le_refl _, hq ⟨HN.o, HF.o, HNB.o, HWW.o⟩⟩
      · have hbz : ((t' : Int) == 1) = false := beq_eq_false_iff_ne.2 (by omega)
        have hbz2 : ¬ (t' : Int) = 1 := by omega
        have HS := hq (whole_set3 hR.o.2.2.2 (.int .i64 (t' : Int)) (.int .i64 (ta : Int)) (.int .i64 (tb : Int)))
        have HV := hq (HP.o ((t', ta, tb) :: l) (some ⟨b, f, none⟩) cap _ (hR.o.1.far3 hno hwl (.int .i64 (t' : Int)) (.int .i64 (ta : Int)) (.int .i64 (tb : Int))) (hR.o.2.1.new3 (Nat.le_refl _) _ _ _) hR.o.2.2.1 (.inr ⟨_, _, rfl, hb⟩))
        have z0 := HS.o.at_ 0
        have z1 := HS.o.at_ 1
        have z2 := HS.o.at_ 2
        unfold set3 at z0 z1 z2 HV
        have HZ := hq (And.intro z0 (And.intro z1 z2))
        clear z0 z1 z2 HS hR
        go_wp2_with fail
        refine bodyPost_ret (v := nextV ((t', ta, tb) :: l)) ?_ rfl HV.o
        obtain ⟨z0, z1, z2⟩ := HZ.o
        simp [results, Tryd.results30, go_sem, z0, z1, z2, nextV]

def tokA (t : Tok) : Value := .agg #[.int .i64 (t.1 : Int), .int .i64 (t.2.1 : Int), .int .i64 (t.2.2 : Int)]
def zeroA : Value := .agg #[.int .i64 0, .int .i64 0, .int .i64 0]
def TakePost (w0 : World) (g : Nat) (s : ByteArray) (r : RS) (one other : Nat) (W : World) (e : Ending) (W' : World) : Prop :=
  match takeM s.size one other (nbl r.ts) with
  | .inl (wh, er) => e = .returned (.tuple #[zeroA, .bool false]) ∧ (∃ ts o cap, Rd w0 g s ((r.at ts o cap).bad wh er) W') ∧ Fr (r.own g) (r.own g) W W'
  | .inr (t, l) => e = .returned (.tuple #[tokA t, .bool true]) ∧ (t.2.1 ≤ t.2.2 ∧ t.2.2 ≤ s.size) ∧ (∃ ts o cap, Rd w0 g s (r.at ts o cap) W' ∧ nbl ts = l) ∧ Fr (r.own g) (r.own g) W W'

set_option maxHeartbeats 1000000 in
set_option maxRecDepth 1000000 in
theorem jtake_any {w0 W : World} {g : Nat} {s : ByteArray} {r : RS} (h : Rd w0 g s r W) (one other : Nat) :
    Calls Tryd.prog 113 #[.pointer (some ⟨g, 0, none⟩), .int .i64 (one : Int), .int .i64 (other : Int)] W (TakePost w0 g s r one other W) := by
  have HN := hq (jnext_any (h.grow (below_alloc W (.cells #[.int .i64 0, .int .i64 0, .int .i64 0] 61))))
  have HL : Hq (Lo (r.own g) (W.alloc (.cells #[.int .i64 0, .int .i64 0, .int .i64 0] 61)) W.heap.size 61 #[.int .i64 0, .int .i64 0, .int .i64 0]) := hq (Lo.new (fun k hk => (h.own_lt k hk).2) _ _)
  have HF0 : Hq (Fr (r.own g) (r.own g) W (W.alloc (.cells #[.int .i64 0, .int .i64 0, .int .i64 0] 61))) := hq (Fr.of_below _ (below_alloc W _))
  have hwl : w0.heap.size ≤ W.heap.size := h.bl.size
  have HOL := hq h.own_lt
  clear h
  have HPL : Hq (∀ wh er W', takeM s.size one other (nbl r.ts) = .inl (wh, er) → (∃ ts o cap, Rd w0 g s ((r.at ts o cap).bad wh er) W') → Fr (r.own g) (r.own g) W W' → TakePost w0 g s r one other W (.returned (.tuple #[zeroA, .bool false])) W') := hq (fun wh er W' h1 h2 h3 => by unfold TakePost; rw [h1]; exact ⟨rfl, h2, h3⟩)
  have HPR : Hq (∀ t l W', takeM s.size one other (nbl r.ts) = .inr (t, l) → (t.2.1 ≤ t.2.2 ∧ t.2.2 ≤ s.size) → (∃ ts o cap, Rd w0 g s (r.at ts o cap) W' ∧ nbl ts = l) → Fr (r.own g) (r.own g) W W' → TakePost w0 g s r one other W (.returned (.tuple #[tokA t, .bool true])) W') := hq (fun t l W' h1 h0 h2 h3 => by unfold TakePost; rw [h1]; exact ⟨rfl, h0, h2, h3⟩)
  generalize hPP : TakePost w0 g s r one other W = PP at *
  clear hPP
  go_enter Tryd.func113, Tryd.ntmps113
  go_wp2_with fail
  refine HN.o.mono ?_
  rintro e W2 ⟨ts, o, cap, rfl, hR, hF, hnb, hst⟩
  have HR2 := hq hR
  have HL2 := hq (HL.o.step hF)
  have HF2 := hq (HF0.o.trans hF)
  have HNB := hq hnb
  clear hR hF hnb HN HL HF0
  rcases hst with rfl | ⟨t, l, rfl, ht⟩
  · unfold nextV
    have HT : Hq (takeM s.size one other (nbl r.ts) = .inl (s.size, 2)) := hq (by rw [← HNB.o]; rfl)
    have HW3 := hq (HR2.o.grow (below_alloc W2 (.cells #[.int .i64 0, .int .i64 0, .int .i64 0] 61)))
    have HF3 := hq (HF2.o.trans (Fr.of_below _ (below_alloc W2 (.cells #[.int .i64 0, .int .i64 0, .int .i64 0] 61))))
    have HL3 := hq (HL2.o.below (below_alloc W2 (.cells #[.int .i64 0, .int .i64 0, .int .i64 0] 61)))
    have hc0 := HW3.o.cells.1
    have HC := hq (jfail_any HW3.o 2 (s.size : Int))
    clear HR2 HF2 HL2 HNB
    go_wp2_with fail
    refine HC.o.mono ?_
    rintro e W4 ⟨rfl, hR4, hF4⟩
    have HF4 := hq (HF3.o.trans hF4)
    have HL4 := hq (HL3.o.step hF4)
    have HS := hq (whole_set3 HL4.o.at_ (.int .i64 0) (.int .i64 0) (.int .i64 0))
    have HV := hq (HPL.o s.size 2 _ HT.o ⟨[], o, cap, hR4.far3 HL4.o.no hwl (.int .i64 0) (.int .i64 0) (.int .i64 0)⟩ (HF4.o.new3 (Nat.le_refl _) _ _ _))
    have z0 := HS.o.at_ 0
    have z1 := HS.o.at_ 1
    have z2 := HS.o.at_ 2
    have y0 := HL4.o.at_.at_ 0
    have y1 := HL4.o.at_.at_ 1
    have y2 := HL4.o.at_.at_ 2
    have yf := HL4.o.at_.free
    unfold set3 at z0 z1 z2 HV
    have HZ := hq (And.intro z0 (And.intro z1 z2))
    clear z0 z1 z2 HS HC hR4 hF4 HF3 HL3 HW3 hc0
    go_wp2_with fail
    refine bodyPost_ret (v := .tuple #[zeroA, .bool false]) ?_ rfl HV.o
    obtain ⟨z0, z1, z2⟩ := HZ.o
    simp [results, Tryd.results113, go_sem, z0, z1, z2, zeroA]
  · obtain ⟨kd, ta, tb⟩ := t
    unfold nextV
    dsimp only
    simp only at ht
    have HNB2 : Hq (nbl r.ts = (kd, ta, tb) :: nbl l) := hq (by rw [← HNB.o, nbl_cons, if_neg ht])
    have HW3 := hq (HR2.o.grow (below_alloc W2 (.cells #[.int .i64 (kd : Int), .int .i64 (ta : Int), .int .i64 (tb : Int)] 61)))
    have HF3 := hq (HF2.o.trans (Fr.of_below _ (below_alloc W2 (.cells #[.int .i64 (kd : Int), .int .i64 (ta : Int), .int .i64 (tb : Int)] 61))))
    have HL3 := hq (HL2.o.below (below_alloc W2 (.cells #[.int .i64 (kd : Int), .int .i64 (ta : Int), .int .i64 (tb : Int)] 61)))
    have HB3 : Hq (Lo (r.own g) (W2.alloc (.cells #[.int .i64 (kd : Int), .int .i64 (ta : Int), .int .i64 (tb : Int)] 61)) W2.heap.size 61 #[.int .i64 (kd : Int), .int .i64 (ta : Int), .int .i64 (tb : Int)]) := hq (Lo.new (fun k hk => (HR2.o.own_lt k hk).2) _ _)
    have x0 := HB3.o.at_.at_ 0
    have x1 := HB3.o.at_.at_ 1
    have x2 := HB3.o.at_.at_ 2
    have HC := hq (jfail_any HW3.o 2 (ta : Int))
    by_cases hno : kd ≠ one ∧ kd ≠ other
    · have h1 : ((kd : Int) != (one : Int)) = true := bne_iff_ne.2 (by omega)
      have h2 : ((kd : Int) != (other : Int)) = true := bne_iff_ne.2 (by omega)
      have h3 : ¬ (kd : Int) = (one : Int) := by omega
      have h4 : ¬ (kd : Int) = (other : Int) := by omega
      have HT : Hq (takeM s.size one other (nbl r.ts) = .inl (ta, 2)) := hq (by rw [HNB2.o]; unfold takeM; simp only; rw [if_pos hno])
      clear HR2 HF2 HL2 HNB HNB2
      go_wp2_with fail
      refine HC.o.mono ?_
      rintro e W4 ⟨rfl, hR4, hF4⟩
      have HF4 := hq (HF3.o.trans hF4)
      have HL4 := hq (HL3.o.step hF4)
      have HS := hq (whole_set3 HL4.o.at_ (.int .i64 0) (.int .i64 0) (.int .i64 0))
      have HV := hq (HPL.o ta 2 _ HT.o ⟨_, o, cap, hR4.far3 HL4.o.no hwl (.int .i64 0) (.int .i64 0) (.int .i64 0)⟩ (HF4.o.new3 (Nat.le_refl _) _ _ _))
      have z0 := HS.o.at_ 0
      have z1 := HS.o.at_ 1
      have z2 := HS.o.at_ 2
      have y0 := HL4.o.at_.at_ 0
      have y1 := HL4.o.at_.at_ 1
      have y2 := HL4.o.at_.at_ 2
      have yf := HL4.o.at_.free
      unfold set3 at z0 z1 z2 HV
      have HZ := hq (And.intro z0 (And.intro z1 z2))
      clear z0 z1 z2 HS HC hR4 hF4 HF3 HL3 HW3 HB3 x0 x1 x2
      go_wp2_with fail
      refine bodyPost_ret (v := .tuple #[zeroA, .bool false]) ?_ rfl HV.o
      obtain ⟨z0, z1, z2⟩ := HZ.o
      simp [results, Tryd.results113, go_sem, z0, z1, z2, zeroA]
    · have HT : Hq (takeM s.size one other (nbl r.ts) = .inr ((kd, ta, tb), nbl l)) := hq (by rw [HNB2.o]; unfold takeM; simp only; rw [if_neg hno])
      obtain ⟨b, f, A, ho, hA, hcap, hR5⟩ := HW3.o.tail
      subst ho
      have hc1 := HW3.o.cells.2.1
      have hcf := HW3.o.cells.2.2.2.2.2
      simp only [RS.at, List.length_cons] at hc1
      obtain ⟨m, hm⟩ : ∃ m, m = l.length + 1 := ⟨_, rfl⟩
      rw [← hm] at hc1 hcap
      have hm0 : 0 < m := by omega
      have hmz : (0 : Int) < (m : Int) := by omega
      have hm1 : 1 ≤ m := by omega
      have hml : m - 1 = l.length := by omega
      have hF5 := HF3.o.trans (Fr.put r g _ 1 (.slice A l.length (cap - 1)))
      have hfr := Fr.put r g (W2.alloc (.cells #[.int .i64 (kd : Int), .int .i64 (ta : Int), .int .i64 (tb : Int)] 61)) 1 (.slice A l.length (cap - 1))
      have hL5 := HL3.o.step hfr
      have hB5 := HB3.o.step hfr
      have HS := hq (whole_set3 hL5.at_ (.int .i64 (kd : Int)) (.int .i64 (ta : Int)) (.int .i64 (tb : Int)))
      have HV := hq (HPR.o (kd, ta, tb) _ _ HT.o (HW3.o.tk.2 (kd, ta, tb) (List.mem_cons_self ..)) ⟨l, A, cap - 1, hR5.far3 hL5.no hwl (.int .i64 (kd : Int)) (.int .i64 (ta : Int)) (.int .i64 (tb : Int)), rfl⟩ (hF5.new3 (Nat.le_refl _) _ _ _))
      have z0 := HS.o.at_ 0
      have z1 := HS.o.at_ 1
      have z2 := HS.o.at_ 2
      have y0 := hL5.at_.at_ 0
      have y1 := hL5.at_.at_ 1
      have y2 := hL5.at_.at_ 2
      have yf := hL5.at_.free
      have v0 := hB5.at_.at_ 0
      have v1 := hB5.at_.at_ 1
      have v2 := hB5.at_.at_ 2
      unfold set3 at z0 z1 z2 HV
      have HZ := hq (And.intro z0 (And.intro z1 z2))
      clear z0 z1 z2 HS HC hR5 hF5 hfr hL5 hB5 HF3 HL3 HW3 HB3 HR2 HF2 HL2 HNB HNB2 HT hm
      by_cases h1 : kd = one
      · subst h1
        go_wp2_with fail
        refine bodyPost_ret (v := .tuple #[tokA (kd, ta, tb), .bool true]) ?_ rfl HV.o
        obtain ⟨z0, z1, z2⟩ := HZ.o
        simp [results, Tryd.results113, go_sem, z0, z1, z2, tokA]
      · have h2 : kd = other := Decidable.not_not.1 fun h2 => hno ⟨h1, h2⟩
        subst h2
        have h3 : ((kd : Int) != (one : Int)) = true := bne_iff_ne.2 (by omega)
        have h4 : ¬ (kd : Int) = (one : Int) := by omega
        go_wp2_with fail
        refine bodyPost_ret (v := .tuple #[tokA (kd, ta, tb), .bool true]) ?_ rfl HV.o
        obtain ⟨z0, z1, z2⟩ := HZ.o
        simp [results, Tryd.results113, go_sem, z0, z1, z2, tokA]
end Go.Proofs.YtmomildkopainaaDoor

namespace Go.Proofs.YtmomildkopainaaDoor
open Go.RowKit

/-- what reads the rest of a value -/
def restF (k : Nat) : Nat := if kindM k = 5 then 77 else if kindM k = 6 then 78 else 76
theorem jleaf_any (v : Value) (a b : Int) (W : World) : Calls Tryd.prog 76 #[v, .int .i64 a, .int .i64 b] W fun e W' => e = .returned (.bool true) ∧ W = W' := by
  go_enter Tryd.func76, Tryd.ntmps76
  go_wp2_with fail
  go_ret
  exact ⟨rfl, rfl⟩
set_option maxHeartbeats 1000000 in
set_option maxRecDepth 1000000 in
theorem jstep_any (v : Value) (k : Nat) (W : World) : Calls Tryd.prog 52 #[v, .int .i64 (k : Int)] W fun e W' => e = .returned (.tuple #[.int .i64 (kindM k : Int), .func (.func (restF k)) #[v] #[]]) ∧ W = W' := by
  have hmf : ∀ fn first cap w, (Instr.makeFunc fn first cap).run Tryd.prog w = .ok (.func fn first cap) w := fun _ _ _ _ => rfl
  by_cases h12 : k = 12
  · subst h12
    go_enter Tryd.func52, Tryd.ntmps52
    go_wp2_with fail
    go_ret2
    exact ⟨rfl, rfl⟩
  by_cases h10 : k = 10
  · subst h10
    go_enter Tryd.func52, Tryd.ntmps52
    go_wp2_with fail
    go_ret2
    exact ⟨rfl, rfl⟩
  by_cases h11 : k = 11
  · subst h11
    go_enter Tryd.func52, Tryd.ntmps52
    go_wp2_with fail
    go_ret2
    exact ⟨rfl, rfl⟩
  by_cases h9 : k = 9
  · subst h9
    go_enter Tryd.func52, Tryd.ntmps52
    go_wp2_with fail
    go_ret2
    exact ⟨rfl, rfl⟩
  by_cases h8 : k = 8
  · subst h8
    go_enter Tryd.func52, Tryd.ntmps52
    go_wp2_with fail
    go_ret2
    exact ⟨rfl, rfl⟩
  by_cases h4 : k = 4
  · subst h4
    go_enter Tryd.func52, Tryd.ntmps52
    go_wp2_with fail
    go_ret2
    exact ⟨rfl, rfl⟩
  by_cases h2 : k = 2
  · subst h2
    go_enter Tryd.func52, Tryd.ntmps52
    go_wp2_with fail
    go_ret2
    exact ⟨rfl, rfl⟩
  have HK : Hq (kindM k = 0) := hq (by unfold kindM; rw [if_neg h12, if_neg (by omega), if_neg h9, if_neg h8, if_neg h4, if_neg h2])
  have HRF : Hq (restF k = 76) := hq (by unfold restF; rw [HK.o]; rfl)
  have e1 : ¬ (k : Int) = 12 := by omega
  have e2 : ¬ (k : Int) = 10 := by omega
  have e3 : ¬ (k : Int) = 11 := by omega
  have e4 : ¬ (k : Int) = 9 := by omega
  have e5 : ¬ (k : Int) = 8 := by omega
  have e6 : ¬ (k : Int) = 4 := by omega
  have e7 : ¬ (k : Int) = 2 := by omega
  have e1' : ((k : Int) == 12) = false := beq_eq_false_iff_ne.2 e1
  have e2' : ((k : Int) == 10) = false := beq_eq_false_iff_ne.2 e2
  have e3' : ((k : Int) == 11) = false := beq_eq_false_iff_ne.2 e3
  have e4' : ((k : Int) == 9) = false := beq_eq_false_iff_ne.2 e4
  have e5' : ((k : Int) == 8) = false := beq_eq_false_iff_ne.2 e5
  have e6' : ((k : Int) == 4) = false := beq_eq_false_iff_ne.2 e6
  have e7' : ((k : Int) == 2) = false := beq_eq_false_iff_ne.2 e7
  go_enter Tryd.func52, Tryd.ntmps52
  go_wp2_with fail
  go_ret2
  exact ⟨by rw [HK.o, HRF.o]; rfl, rfl⟩

/-- the blocks that a list may turn: the reader's, and those of what reads its kids -/
def OM (g : Nat) (M : Nat → Prop) (r : RS) (k : Nat) : Prop := r.own g k ∨ M k
def ValPost (w0 : World) (g : Nat) (s : ByteArray) (r : RS) (d : Nat) (key : Nat × Nat) (W : World) (e : Ending) (W' : World) : Prop :=
  match valueM s.size (keyTx s) d (nbl r.ts) key r.ns with
  | .inl (wh, er) => (∃ q : Int, e = .returned (.tuple #[.int .i64 q, .bool false])) ∧ ∃ r', Rd w0 g s r' W' ∧ Fr (r.own g) (r'.own g) W W' ∧ r'.wh = (wh : Int) ∧ r'.er = er
  | .inr (l, ns) => e = .returned (.tuple #[.int .i64 (r.nv.length : Int), .bool true]) ∧ ∃ r', Rd w0 g s r' W' ∧ Fr (r.own g) (r'.own g) W W' ∧ nbl r'.ts = l ∧ r'.ns = ns
def KidPost (w0 : World) (g : Nat) (s : ByteArray) (M : Nat → Prop) (J : RS → List Bs → World → Prop) (ob : Bool) (d : Nat) (r : RS) (had : List Bs) (W : World) (e : Ending) (W' : World) : Prop :=
  match kidM (valueM s.size (keyTx s) d) ob s.size (keyTx s) had (nbl r.ts) r.ns with
  | .inl (wh, er) => (∃ q : Int, e = .returned (.tuple #[.int .i64 q, .bool false])) ∧ ∃ r', Rd w0 g s r' W' ∧ Fr (OM g M r) (OM g M r') W W' ∧ r'.wh = (wh : Int) ∧ r'.er = er
  | .inr (had', l, ns) => e = .returned (.tuple #[.int .i64 (r.nv.length : Int), .bool true]) ∧ ∃ r', Rd w0 g s r' W' ∧ J r' had' W' ∧ Fr (OM g M r) (OM g M r') W W' ∧ nbl r'.ts = l ∧ r'.ns = ns
def ListPost (w0 : World) (g : Nat) (s : ByteArray) (M : Nat → Prop) (ob : Bool) (d : Nat) (r : RS) (k : Nat) (W : World) (e : Ending) (W' : World) : Prop :=
  match listM (valueM s.size (keyTx s) d) ob s.size (keyTx s) k (nbl r.ts) r.ns with
  | .inl (wh, er) => e = .returned (.bool false) ∧ ∃ r', Rd w0 g s r' W' ∧ Fr (OM g M r) (OM g M r') W W' ∧ r'.wh = (wh : Int) ∧ r'.er = er
  | .inr (l, ns) => e = .returned (.bool true) ∧ ∃ r', Rd w0 g s r' W' ∧ Fr (OM g M r) (OM g M r') W W' ∧ nbl r'.ts = l ∧ r'.ns = ns
theorem Fr.om {g : Nat} {M : Nat → Prop} {r r' : RS} {W W' : World} (h : Fr (r.own g) (r'.own g) W W') : Fr (OM g M r) (OM g M r') W W' :=
  ⟨h.os, h.tape, h.output, h.size, fun k hk hn => h.block k hk fun ho => hn (.inl ho), fun k hk => hk.elim (fun ho => (h.own k ho).imp .inl id) fun hm => .inl (.inr hm)⟩
end Go.Proofs.YtmomildkopainaaDoor
