/-
  MEMORY of the document's parser (scarfref05): its tokens, its nodes, their kids and pieces.
-/
import Derived.Test.YtmomildkopainaaDoorJsZ
namespace Go.Proofs.YtmomildkopainaaDoor
open Go.RowKit

/-- an operation, so that a walk does not take it first -/
def opQ (o : Op) : Op := o
/-- what the document's parser holds: at token k of L -/
structure Pd (w0 : World) (g : Nat) (s : ByteArray) (L : List Tok) (vL : Value) (k : Nat) (r : RS) (W : World) : Prop where
  blk : Whole W g 59 #[.string s, vL, .int .i64 (k : Int), r.vN, .int .i64 r.wh, .int .i64 r.er]
  tk : W.ownsRow w0.heap.size 61 3 vL L.length (tokCells L)
  tl : ∀ t ∈ L, t.2.1 ≤ t.2.2 ∧ t.2.2 ≤ s.size
  tm : k ≤ L.length
  nd : W.ownsRow w0.heap.size 53 7 r.vN r.nv.length (nodeCells r.nv)
  kr : ∀ i (hi : i < r.nv.length), W.ownsRow w0.heap.size 3 1 r.nv[i].k r.nv[i].n.kids.length (kidC r.nv[i].n.kids)
  pr : ∀ i (hi : i < r.nv.length), W.ownsRow w0.heap.size 49 2 r.nv[i].p r.nv[i].n.pcs.length (pcC r.nv[i].n.pcs)
  ak : ∀ i j (hi : i < r.nv.length) (hj : j < r.nv.length), i ≠ j → ∀ q, r.nv[i].k.ownBlock = some q → r.nv[j].k.ownBlock ≠ some q
  ap : ∀ i j (hi : i < r.nv.length) (hj : j < r.nv.length), i ≠ j → ∀ q, r.nv[i].p.ownBlock = some q → r.nv[j].p.ownBlock ≠ some q
  bl : Below w0.heap.size w0 W
  gl : w0.heap.size ≤ g
  n4 : r.nv.length ≤ 4096
  kl : ∀ i (hi : i < r.nv.length), r.nv[i].n.kids.length ≤ r.nv.length ∧ r.nv[i].n.pcs.length ≤ r.nv.length
section
variable {w0 W W' : World} {g : Nat} {s : ByteArray} {L : List Tok} {vL : Value} {k0 : Nat} {r : RS}
theorem Pd.own_lt (h : Pd w0 g s L vL k0 r W) : ∀ k, r.own g k → w0.heap.size ≤ k ∧ k < W.heap.size := fun k hk => by
  rcases hk with rfl | hk | ⟨i, hi, hk | hk⟩
  · exact ⟨h.gl, h.blk.lt⟩
  · exact h.nd.lt k hk
  · exact (h.kr i hi).lt k hk
  · exact (h.pr i hi).lt k hk
theorem Pd.grow (h : Pd w0 g s L vL k0 r W) (hb : Below W.heap.size W W') : Pd w0 g s L vL k0 r W' := by
  have hg : W.grownBy W' none := ⟨hb.os, hb.tape, hb.output, hb.size, fun j hj _ => hb.block j hj⟩
  have hn : ∀ (v : Value) (b : Nat), (none : Option Nat) = some b → v.ownBlock ≠ some b := fun v b e => by cases e
  exact ⟨h.blk.grow hb, row_kept h.tk hg (hn _), h.tl, h.tm, row_kept h.nd hg (hn _), fun i hi => row_kept (h.kr i hi) hg (hn _), fun i hi => row_kept (h.pr i hi) hg (hn _), h.ak, h.ap, h.bl.trans (hb.mono h.bl.size), h.gl, h.n4, h.kl⟩
/-- the blocks of the nodes' rows are no others -/
theorem Pd.ng (h : Pd w0 g s L vL k0 r W) : r.vN.ownBlock ≠ some g := whole_apart h.nd h.blk (by decide)
theorem Pd.kg (h : Pd w0 g s L vL k0 r W) {i : Nat} (hi : i < r.nv.length) : r.nv[i].k.ownBlock ≠ some g := whole_apart (h.kr i hi) h.blk (by decide)
theorem Pd.pg (h : Pd w0 g s L vL k0 r W) {i : Nat} (hi : i < r.nv.length) : r.nv[i].p.ownBlock ≠ some g := whole_apart (h.pr i hi) h.blk (by decide)
theorem Pd.tg (h : Pd w0 g s L vL k0 r W) : vL.ownBlock ≠ some g := whole_apart h.tk h.blk (by decide)
/-- a field of the parser is written -/
theorem Pd.put (h : Pd w0 g s L vL k0 r W) (i : Nat) (u : Value) : (W.setCell ⟨g, i, none⟩ u).ownsRow w0.heap.size 53 7 r.vN r.nv.length (nodeCells r.nv) ∧
    (∀ j (hj : j < r.nv.length), (W.setCell ⟨g, i, none⟩ u).ownsRow w0.heap.size 3 1 r.nv[j].k r.nv[j].n.kids.length (kidC r.nv[j].n.kids)) ∧ (∀ j (hj : j < r.nv.length), (W.setCell ⟨g, i, none⟩ u).ownsRow w0.heap.size 49 2 r.nv[j].p r.nv[j].n.pcs.length (pcC r.nv[j].n.pcs)) ∧ Below w0.heap.size w0 (W.setCell ⟨g, i, none⟩ u) ∧ (W.setCell ⟨g, i, none⟩ u).ownsRow w0.heap.size 61 3 vL L.length (tokCells L) := by
  have hg := set_grown W ⟨g, i, none⟩ u
  have hne : ∀ (v : Value), v.ownBlock ≠ some g → ∀ b, some (⟨g, i, none⟩ : Addr).block = some b → v.ownBlock ≠ some b := fun v hv b e => by cases e; exact hv
  exact ⟨row_kept h.nd hg (hne _ h.ng), fun j hj => row_kept (h.kr j hj) hg (hne _ (h.kg hj)), fun j hj => row_kept (h.pr j hj) hg (hne _ (h.pg hj)), h.bl.setCell h.gl u, row_kept h.tk hg (hne _ h.tg)⟩
/-- the parser goes to a token -/
theorem Pd.step (h : Pd w0 g s L vL k0 r W) {k1 : Nat} (hk : k1 ≤ L.length) : Pd w0 g s L vL k1 r (W.setCell ⟨g, 2, none⟩ (.int .i64 (k1 : Int))) := by
  obtain ⟨h1, h2, h3, h4, h5⟩ := h.put 2 (.int .i64 (k1 : Int))
  exact ⟨h.blk.put 2 _, h5, h.tl, hk, h1, h2, h3, h.ak, h.ap, h4, h.gl, h.n4, h.kl⟩
/-- what is wrong is kept -/
theorem Pd.fail (h : Pd w0 g s L vL k0 r W) (wh er : Int) : Pd w0 g s L vL k0 { r with wh := wh, er := er } ((W.setCell ⟨g, 4, none⟩ (.int .i64 wh)).setCell ⟨g, 5, none⟩ (.int .i64 er)) := by
  obtain ⟨h1, h2, h3, h4, h5⟩ := h.put 4 (.int .i64 wh)
  have hr1 : Pd w0 g s L vL k0 { r with wh := wh } (W.setCell ⟨g, 4, none⟩ (.int .i64 wh)) := ⟨h.blk.put 4 _, h5, h.tl, h.tm, h1, h2, h3, h.ak, h.ap, h4, h.gl, h.n4, h.kl⟩
  obtain ⟨k1, k2, k3, k4, k5⟩ := hr1.put 5 (.int .i64 er)
  exact ⟨hr1.blk.put 5 _, k5, h.tl, h.tm, k1, k2, k3, h.ak, h.ap, k4, h.gl, h.n4, h.kl⟩
theorem Fr.fail2 (r : RS) (g : Nat) (W : World) (wh er : Int) : Fr (r.own g) (r.own g) W ((W.setCell ⟨g, 4, none⟩ (.int .i64 wh)).setCell ⟨g, 5, none⟩ (.int .i64 er)) := ((Fr.refl _ _).set (.inl rfl) _).set (.inl rfl) _
/-- one node more: the row as append leaves it -/
theorem Pd.app (h : Pd w0 g s L vL k0 r W) {n : JN} {v' : Value} (hk : n.kids = []) (hp : n.pcs = []) (h4 : r.nv.length < 4096) (hown : W'.ownsRow w0.heap.size 53 7 v' (r.nv.length + 1) (nodeCells (r.nv ++ [newN n]))) (hg : W.grownBy W' r.vN.ownBlock) (hat : v'.ownBlock = r.vN.ownBlock ∨ v'.ownBlock = some W.heap.size) :
    Pd w0 g s L vL k0 (r.app n v') (W'.setCell ⟨g, 3, none⟩ v') ∧ Fr (r.own g) ((r.app n v').own g) W (W'.setCell ⟨g, 3, none⟩ v') := by
  have hblk : Whole W' g 59 #[.string s, vL, .int .i64 (k0 : Int), r.vN, .int .i64 r.wh, .int .i64 r.er] := whole_kept h.blk hg fun b e hb => h.ng (by rw [e, hb])
  have hg2 := set_grown W' ⟨g, 3, none⟩ v'
  have hkk : ∀ i (hi : i < r.nv.length), (W'.setCell ⟨g, 3, none⟩ v').ownsRow w0.heap.size 3 1 r.nv[i].k r.nv[i].n.kids.length (kidC r.nv[i].n.kids) := fun i hi => row_kept (row_kept (h.kr i hi) hg fun b e => own_apart h.nd (h.kr i hi) (by decide) b e) hg2 fun b e => by cases e; exact h.kg hi
  have hpp : ∀ i (hi : i < r.nv.length), (W'.setCell ⟨g, 3, none⟩ v').ownsRow w0.heap.size 49 2 r.nv[i].p r.nv[i].n.pcs.length (pcC r.nv[i].n.pcs) := fun i hi => row_kept (row_kept (h.pr i hi) hg fun b e => own_apart h.nd (h.pr i hi) (by decide) b e) hg2 fun b e => by cases e; exact h.pg hi
  have hv'g : v'.ownBlock ≠ some g := whole_apart hown hblk (by decide)
  have hbl : Below w0.heap.size w0 (W'.setCell ⟨g, 3, none⟩ v') := (h.bl.grown hg h.bl.size fun k e => (h.nd.lt k e).1).setCell h.gl v'
  have hcs : ∀ i (hi : i < (r.nv ++ [newN n]).length), (∃ hi' : i < r.nv.length, (r.nv ++ [newN n])[i] = r.nv[i]) ∨ (r.nv ++ [newN n])[i] = newN n := fun i hi => by
    by_cases hlt : i < r.nv.length
    · exact .inl ⟨hlt, List.getElem_append_left hlt⟩
    · refine .inr ?_
      rw [List.getElem_append_right (by omega)]
      simp
  have hnew : ∀ q, ¬ ((newN n).k.ownBlock = some q ∨ (newN n).p.ownBlock = some q) := fun q hq => by rcases hq with hq | hq <;> cases hq
  refine ⟨⟨hblk.put 3 _, row_kept (row_kept h.tk hg fun b e => own_apart h.nd h.tk (by decide) b e) hg2 (fun b e => by cases e; exact h.tg), h.tl, h.tm, ?_, ?_, ?_, ?_, ?_, hbl, h.gl, ?_, ?_⟩, ?_⟩
  · have e : (r.app n v').nv.length = r.nv.length + 1 := by unfold RS.app; simp
    rw [e]
    exact row_kept hown hg2 fun b e => by cases e; exact hv'g
  · intro i hi
    rcases hcs i hi with ⟨hi', e⟩ | e
    · rw [show (r.app n v').nv[i] = r.nv[i] from e]; exact hkk i hi'
    · rw [show (r.app n v').nv[i] = newN n from e]; simp only [newN, hk]; exact World.ownsRow_nil _ _ _ _
  · intro i hi
    rcases hcs i hi with ⟨hi', e⟩ | e
    · rw [show (r.app n v').nv[i] = r.nv[i] from e]; exact hpp i hi'
    · rw [show (r.app n v').nv[i] = newN n from e]; simp only [newN, hp]; exact World.ownsRow_nil _ _ _ _
  · intro i j hi hj hne q hq hq'
    simp only [RS.app] at hi hj hq hq'
    rcases hcs i hi with ⟨hi', e⟩ | e
    · rcases hcs j hj with ⟨hj', e2⟩ | e2
      · rw [e] at hq; rw [e2] at hq'; exact h.ak i j hi' hj' hne q hq hq'
      · rw [e2] at hq'; exact hnew q (.inl hq')
    · rw [e] at hq; exact hnew q (.inl hq)
  · intro i j hi hj hne q hq hq'
    simp only [RS.app] at hi hj hq hq'
    rcases hcs i hi with ⟨hi', e⟩ | e
    · rcases hcs j hj with ⟨hj', e2⟩ | e2
      · rw [e] at hq; rw [e2] at hq'; exact h.ap i j hi' hj' hne q hq hq'
      · rw [e2] at hq'; exact hnew q (.inr hq')
    · rw [e] at hq; exact hnew q (.inr hq)
  · unfold RS.app; rw [List.length_append, List.length_singleton]; exact h4
  · intro i hi
    have el : (r.app n v').nv.length = r.nv.length + 1 := by unfold RS.app; simp
    rw [el]
    rcases hcs i hi with ⟨hi', e⟩ | e
    · rw [show (r.app n v').nv[i] = r.nv[i] from e]; have := h.kl i hi'; omega
    · rw [show (r.app n v').nv[i] = newN n from e]; simp [newN, hk, hp]
  · have hown' : ∀ k, (r.app n v').own g k → r.own g k ∨ W.heap.size ≤ k := fun k hk => by
      rcases hk with rfl | hk | ⟨i, hi, hk⟩
      · exact .inl (.inl rfl)
      · rcases hat with e | e
        · exact .inl (.inr (.inl (e.symm.trans hk)))
        · have hk2 : v'.ownBlock = some k := hk
          rw [e] at hk2
          exact .inr (Nat.le_of_eq (Option.some.inj hk2))
      · simp only [RS.app] at hi hk
        rcases hcs i hi with ⟨hi', e⟩ | e
        · rw [e] at hk; exact .inl (.inr (.inr ⟨i, hi', hk⟩))
        · rw [e] at hk; exact absurd hk (hnew k)
    exact ((Fr.refl _ _).grown hg (fun k e => .inr (.inl e)) hown').set (.inl rfl) v'
/-- the cells of a node -/
theorem Pd.node (h : Pd w0 g s L vL k0 r W) {k : Nat} (hk : k < r.nv.length) : ∃ gN cap, r.vN = .slice (some ⟨gN, 0, none⟩) r.nv.length cap ∧ r.nv.length ≤ cap ∧ cap ≤ maxLen ∧ (∀ o, W.frozen? ⟨gN, o, none⟩ = false) ∧ ∀ j, j < 7 → W.cell? ⟨gN, k * 7 + j, none⟩ = (nodeC r.nv[k])[j]? := by
  rcases h.nd.2 with ⟨_, h0⟩ | ⟨gN, cap, cur, hv, hg, hh, hc, hm, _⟩
  · omega
  · refine ⟨gN, cap, hv, hc, hm, fun o => frozen_of_row W gN o cur _ hh, fun j hj => ?_⟩
    have hcl := h.nd.cells (g := gN) (by rw [hv]; rfl) (k * 7 + j)
    have ha := nodeCells_at r.nv k j hk hj
    have e1 : (⟨gN, 0, none⟩ : Addr).add (k * 7 + j) = ⟨gN, k * 7 + j, none⟩ := by rw [Addr.add_lit, Nat.zero_add]
    rw [e1, ha] at hcl
    cases hx : (nodeC r.nv[k])[j]? with
    | none =>
      have := List.getElem?_eq_none_iff.1 hx
      simp [nodeC] at this
      omega
    | some u => exact hcl u hx
/-- a node is turned in one cell, behind its kids' or pieces' row -/
theorem Pd.upd (h : Pd w0 g s L vL k0 r W) {k : Nat} (hk : k < r.nv.length) {x : NV} {j : Nat} {u : Value} {row : Option Nat} {gN cap : Nat} (hvN : r.vN = .slice (some ⟨gN, 0, none⟩) r.nv.length cap) (hj : j < 7) (hx : nodeC x = (nodeC r.nv[k]).set j u) (hg : W.grownBy W' row)
    (hrow : row = none ∨ (row = r.nv[k].k.ownBlock ∧ x.p = r.nv[k].p ∧ x.n.pcs = r.nv[k].n.pcs) ∨ (row = r.nv[k].p.ownBlock ∧ x.k = r.nv[k].k ∧ x.n.kids = r.nv[k].n.kids))
    (hkr : W'.ownsRow w0.heap.size 3 1 x.k x.n.kids.length (kidC x.n.kids)) (hpr : W'.ownsRow w0.heap.size 49 2 x.p x.n.pcs.length (pcC x.n.pcs))
    (hak : x.k.ownBlock = r.nv[k].k.ownBlock ∨ x.k.ownBlock = some W.heap.size) (hap : x.p.ownBlock = r.nv[k].p.ownBlock ∨ x.p.ownBlock = some W.heap.size) (hkl : x.n.kids.length ≤ r.nv.length ∧ x.n.pcs.length ≤ r.nv.length) :
    Pd w0 g s L vL k0 (r.upd k x) (W'.setCell ⟨gN, k * 7 + j, none⟩ u) ∧ Fr (r.own g) ((r.upd k x).own g) W (W'.setCell ⟨gN, k * 7 + j, none⟩ u) := by
  have hNo : r.vN.ownBlock = some gN := by rw [hvN]; rfl
  have hg2 := set_grown W' ⟨gN, k * 7 + j, none⟩ u
  have hrowo : ∀ b, row = some b → r.own g b := fun b e => by
    rcases hrow with e2 | ⟨e2, _⟩ | ⟨e2, _⟩
    · rw [e2] at e; cases e
    · exact .inr (.inr ⟨k, hk, .inl (e2.symm.trans e)⟩)
    · exact .inr (.inr ⟨k, hk, .inr (e2.symm.trans e)⟩)
  have hrg : ∀ b, row = some b → b ≠ g := fun b e hb => by
    subst hb
    rcases hrow with e2 | ⟨e2, _⟩ | ⟨e2, _⟩
    · rw [e2] at e; cases e
    · exact h.kg hk (e2.symm.trans e)
    · exact h.pg hk (e2.symm.trans e)
  have hrn : ∀ b, row = some b → r.vN.ownBlock ≠ some b := fun b e => by
    rcases hrow with e2 | ⟨e2, _⟩ | ⟨e2, _⟩
    · rw [e2] at e; cases e
    · exact fun e3 => own_apart (h.kr k hk) h.nd (by decide) b (e2.symm.trans e) e3
    · exact fun e3 => own_apart (h.pr k hk) h.nd (by decide) b (e2.symm.trans e) e3
  have hnd' : W'.ownsRow w0.heap.size 53 7 r.vN r.nv.length (nodeCells r.nv) := row_kept h.nd hg hrn
  have hki : ∀ i (hi : i < r.nv.length), i ≠ k → W'.ownsRow w0.heap.size 3 1 r.nv[i].k r.nv[i].n.kids.length (kidC r.nv[i].n.kids) := fun i hi hne => row_kept (h.kr i hi) hg fun b e => by
    rcases hrow with e2 | ⟨e2, _⟩ | ⟨e2, _⟩
    · rw [e2] at e; cases e
    · exact h.ak k i hk hi (Ne.symm hne) b (e2.symm.trans e)
    · exact own_apart (h.pr k hk) (h.kr i hi) (by decide) b (e2.symm.trans e)
  have hpi : ∀ i (hi : i < r.nv.length), i ≠ k → W'.ownsRow w0.heap.size 49 2 r.nv[i].p r.nv[i].n.pcs.length (pcC r.nv[i].n.pcs) := fun i hi hne => row_kept (h.pr i hi) hg fun b e => by
    rcases hrow with e2 | ⟨e2, _⟩ | ⟨e2, _⟩
    · rw [e2] at e; cases e
    · exact own_apart (h.kr k hk) (h.pr i hi) (by decide) b (e2.symm.trans e)
    · exact h.ap k i hk hi (Ne.symm hne) b (e2.symm.trans e)
  have hs : ∀ {e size n : Nat} {v : Value} {xs : List Value}, W'.ownsRow w0.heap.size e size v n xs → e ≠ 53 → (W'.setCell ⟨gN, k * 7 + j, none⟩ u).ownsRow w0.heap.size e size v n xs := fun ho hne => row_kept ho hg2 fun b e => by
    cases e
    exact fun e3 => own_apart ho hnd' hne gN e3 hNo
  have hlen : (r.upd k x).nv.length = r.nv.length := List.length_set ..
  have hget : ∀ i (hi : i < (r.upd k x).nv.length), (i = k ∧ (r.upd k x).nv[i] = x) ∨ (i ≠ k ∧ ∃ hi' : i < r.nv.length, (r.upd k x).nv[i] = r.nv[i]) := fun i hi => by
    by_cases e : i = k
    · subst e
      exact .inl ⟨rfl, List.getElem_set_self (l := r.nv) (by rw [List.length_set]; exact hk)⟩
    · refine .inr ⟨e, by rw [hlen] at hi; exact hi, ?_⟩
      exact List.getElem_set_ne (l := r.nv) (fun e2 => e e2.symm) (by rw [List.length_set]; rw [hlen] at hi; exact hi)
  have hblk : Whole (W'.setCell ⟨gN, k * 7 + j, none⟩ u) g 59 #[.string s, vL, .int .i64 (k0 : Int), r.vN, .int .i64 r.wh, .int .i64 r.er] := whole_kept (whole_kept h.blk hg hrg) hg2 fun b e hb => by
    cases e
    exact h.ng (hNo.trans (congrArg some hb))
  have hgNl : w0.heap.size ≤ gN := (h.nd.lt gN hNo).1
  have hsz := hg.size
  have htk : W'.ownsRow w0.heap.size 61 3 vL L.length (tokCells L) := row_kept h.tk hg fun b e => by
    rcases hrow with e2 | ⟨e2, _⟩ | ⟨e2, _⟩
    · rw [e2] at e; cases e
    · exact own_apart (h.kr k hk) h.tk (by decide) b (e2.symm.trans e)
    · exact own_apart (h.pr k hk) h.tk (by decide) b (e2.symm.trans e)
  refine ⟨⟨hblk, hs htk (by decide), h.tl, h.tm, ?_, ?_, ?_, ?_, ?_, ?_, h.gl, by rw [hlen]; exact h.n4, ?_⟩, ?_⟩
  · show (W'.setCell ⟨gN, k * 7 + j, none⟩ u).ownsRow w0.heap.size 53 7 r.vN (r.upd k x).nv.length (nodeCells (r.nv.set k x))
    rw [hlen, nodeCells_set r.nv k j u x hk hj hx]
    rw [hvN] at hnd' ⊢
    rcases row_putc hnd' (k * 7 + j) u with h1 | h1
    · exact h1
    · omega
  · intro i hi
    rcases hget i hi with ⟨_, e⟩ | ⟨hne, hi', e⟩
    · rw [e]; exact hs hkr (by decide)
    · rw [e]; exact hs (hki i hi' hne) (by decide)
  · intro i hi
    rcases hget i hi with ⟨_, e⟩ | ⟨hne, hi', e⟩
    · rw [e]; exact hs hpr (by decide)
    · rw [e]; exact hs (hpi i hi' hne) (by decide)
  · intro i i' hi hi' hne q hq hq'
    rcases hget i hi with ⟨e0, e⟩ | ⟨hne1, hi1, e⟩ <;> rcases hget i' hi' with ⟨e0', e'⟩ | ⟨hne2, hi2, e'⟩
    · omega
    · rw [e] at hq; rw [e'] at hq'
      rcases hak with ea | ea
      · exact h.ak k i' hk hi2 (fun e => hne2 e.symm) q (ea.symm.trans hq) hq'
      · have := ((h.kr i' hi2).lt q hq').2
        rw [ea] at hq
        have := Option.some.inj hq
        omega
    · rw [e] at hq; rw [e'] at hq'
      rcases hak with ea | ea
      · exact h.ak i k hi1 hk hne1 q hq (ea.symm.trans hq')
      · have := ((h.kr i hi1).lt q hq).2
        rw [ea] at hq'
        have := Option.some.inj hq'
        omega
    · rw [e] at hq; rw [e'] at hq'
      exact h.ak i i' hi1 hi2 hne q hq hq'
  · intro i i' hi hi' hne q hq hq'
    rcases hget i hi with ⟨e0, e⟩ | ⟨hne1, hi1, e⟩ <;> rcases hget i' hi' with ⟨e0', e'⟩ | ⟨hne2, hi2, e'⟩
    · omega
    · rw [e] at hq; rw [e'] at hq'
      rcases hap with ea | ea
      · exact h.ap k i' hk hi2 (fun e => hne2 e.symm) q (ea.symm.trans hq) hq'
      · have := ((h.pr i' hi2).lt q hq').2
        rw [ea] at hq
        have := Option.some.inj hq
        omega
    · rw [e] at hq; rw [e'] at hq'
      rcases hap with ea | ea
      · exact h.ap i k hi1 hk hne1 q hq (ea.symm.trans hq')
      · have := ((h.pr i hi1).lt q hq).2
        rw [ea] at hq'
        have := Option.some.inj hq'
        omega
    · rw [e] at hq; rw [e'] at hq'
      exact h.ap i i' hi1 hi2 hne q hq hq'
  · exact (h.bl.grown hg h.bl.size fun b e => (h.own_lt b (hrowo b e)).1).setCell hgNl u
  · intro i hi
    rw [hlen]
    rcases hget i hi with ⟨_, e⟩ | ⟨hne, hi', e⟩
    · rw [e]; exact hkl
    · rw [e]; exact h.kl i hi'
  · have hown' : ∀ b, (r.upd k x).own g b → r.own g b ∨ W.heap.size ≤ b := fun b hb => by
      rcases hb with rfl | hb | ⟨i, hi, hb⟩
      · exact .inl (.inl rfl)
      · exact .inl (.inr (.inl hb))
      · rcases hget i hi with ⟨_, e⟩ | ⟨hne, hi', e⟩
        · rw [e] at hb
          rcases hb with hb | hb
          · rcases hak with ea | ea
            · exact .inl (.inr (.inr ⟨k, hk, .inl (ea.symm.trans hb)⟩))
            · rw [ea] at hb; exact .inr (Nat.le_of_eq (Option.some.inj hb))
          · rcases hap with ea | ea
            · exact .inl (.inr (.inr ⟨k, hk, .inr (ea.symm.trans hb)⟩))
            · rw [ea] at hb; exact .inr (Nat.le_of_eq (Option.some.inj hb))
        · rw [e] at hb
          exact .inl (.inr (.inr ⟨i, hi', hb⟩))
    have hmem : (r.upd k x).own g (⟨gN, k * 7 + j, none⟩ : Addr).block := .inr (.inl hNo)
    exact ((Fr.refl _ _).grown hg hrowo hown').set hmem u
end
end Go.Proofs.YtmomildkopainaaDoor
