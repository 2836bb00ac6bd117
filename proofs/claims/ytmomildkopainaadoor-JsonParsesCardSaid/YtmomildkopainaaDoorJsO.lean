/-
  MEMORY: the keys that were had, as a map.
  WALKS: json's reader: what reads an item, a member; array, object.
  WALKS: json's reader: what reads a member; object.
-/
import Derived.Test.YtmomildkopainaaDoorNumMath
import Derived.Test.YtmomildkopainaaDoorUnqC
import Derived.Test.YtmomildkopainaaDoorShelf
import Derived.Maps.Views
import Derived.Maps.Own
import Derived.Maps.OwnOps
import Derived.Maps.OwnSet
import Derived.Test.YtmomildkopainaaDoorJsL
import Derived.Test.YtmomildkopainaaDoorUnqV
import Derived.Deep.RegionHeld3
namespace Go.Proofs.YtmomildkopainaaDoor
open Go.RowKit Go.WideMaps Go.Maps

def hadD : List (Bs × Nat) → DataW Unit
  | [] => .map []
  | x :: l => (hadD l).put (.string x.1) (.lit (.int .i64 (x.2 : Int)))
theorem isKeyS (x : Bs) : WideAt.IsKeyLit (.string x) := by first | exact trivial | simp [WideAt.IsKeyLit]
theorem tidy_had : ∀ l, Tidy (hadD l)
  | [] => tidy_empty
  | _ :: l => (tidy_had l).put (isKeyS _) _
theorem has_had (x : Bs) : ∀ l, has (hadD l) (.string x) = decide (x ∈ l.map Prod.fst)
  | [] => rfl
  | y :: l => by
    unfold hadD
    by_cases he : y.1 = x
    · rw [he, has_put_same (tidy_had l).isMap (isKeyS _)]
      simp [he]
    · rw [has_put_other (by intro e; injection e with e; exact he e.symm), has_had x l]
      have : ¬ x = y.1 := fun e => he e.symm
      simp [this]
theorem strKeyedJ : Keyed Tryd.prog 9 := string_keyed Tryd.underlying9
theorem zeroIntJ (w : World) : (zeroValue 3).run Tryd.prog w = .ok (.int .i64 0) w := by kernel_rfl
theorem key_stJ {x : Bs} (h : x.length ≤ maxLen) : keyOf Tryd.prog 9 (.string (st x)) = some (.string x) := by
  have := keyOf_string_mk Tryd.underlying9 (s := st x) (by rw [st_size]; exact h)
  rw [st_list] at this
  exact this
/-- a block is the map of the keys that were had (where each stands does not matter) -/
def HadIn (w : World) (b : Nat) (l : List (Bs × Nat)) : Prop := w.ownsMap Tryd.prog 9 (plainElem (H := Unit) Tryd.prog 3) b l.length (hadD l)
theorem HadIn.lt {w : World} {b : Nat} {l : List (Bs × Nat)} (h : HadIn w b l) : b < w.heap.size := World.ownsMap.lt h
theorem HadIn.kept {w w' : World} {b : Nat} {l : List (Bs × Nat)} {row : Option Nat} (h : HadIn w b l) (hg : w.grownBy w' row) (hne : some b ≠ row) : HadIn w' b l := World.ownsMap.kept h hg hne
theorem HadIn.same {w w' : World} {b : Nat} {l : List (Bs × Nat)} (h : HadIn w b l) (hb : w'.heap[b]? = w.heap[b]?) : HadIn w' b l := by
  unfold HadIn World.ownsMap at h ⊢
  rw [hb]
  exact h
theorem look_had {w : World} {b : Nat} {l : List (Bs × Nat)} {x : Bs} (h : HadIn w b l) (hx : x.length ≤ maxLen) :
    ∃ v : Int, (Instr.lookup 157 (.map (some b)) (.string (st x)) true).run Tryd.prog w = .ok (.tuple #[.int .i64 v, .bool (decide (x ∈ l.map Prod.fst))]) w := by
  have hz : plainElem (H := Unit) Tryd.prog 3 (.int .i64 0) = some (.lit (.int .i64 0), []) := plainElem_int Tryd.underlying3 (by decide)
  obtain ⟨v, ps, hrun, hv⟩ := World.ownsMap.look_ok h strKeyedJ Tryd.underlying157 (zeroIntJ w) hz (key_stJ hx)
  obtain ⟨c, rfl, hc, _⟩ := plainElem_int_inv Tryd.underlying3 hv
  rw [has_had] at hrun
  exact ⟨c, hrun⟩
theorem wf_i64J (k : Nat) (h : k ≤ 9223372036854775807) : (Lit.int .i64 (k : Int)).wf = true := by
  have h1 : IntKind.i64.min = -9223372036854775808 := by decide
  have h2 : IntKind.i64.max = 9223372036854775807 := by decide
  simp [Lit.wf, h1, h2]
  omega
theorem jencAll_len (l : List Nat) : (encAll l).length ≤ 4 * l.length := by
  induction l with
  | nil => exact Nat.le_refl _
  | cons r l ih =>
    have := encB_len r
    show (encB r ++ encAll l).length ≤ _
    rw [List.length_append, List.length_cons]; omega
theorem jscanGo_len (s : ByteArray) : ∀ (f p : Nat) (acc : List Nat), acc.length ≤ p → p ≤ s.size → (scanGo s f p acc).2.2.length ≤ s.size
  | 0, p, acc, h, hp => Nat.le_trans h hp
  | f + 1, p, acc, h, hp => by
    unfold scanGo
    by_cases hps : p < s.size
    · rw [if_pos hps]
      by_cases h34 : byt s p = 34
      · rw [if_pos h34]; exact Nat.le_trans h hp
      · rw [if_neg h34]
        cases hpm : partM s p with
        | none => exact Nat.le_trans h hp
        | some x =>
          obtain ⟨r, n⟩ := x
          have hbd := partM_bd hps hpm
          refine jscanGo_len s f (p + n) (acc ++ [r]) ?_ hbd.2.2.2.1
          rw [List.length_append, List.length_singleton]; omega
    · rw [if_neg hps]; exact Nat.le_trans h hp
theorem unq_len (t : ByteArray) : (unquoteM t).1.length ≤ 4 * t.size := by
  have h : (scanM t 0).2.2.length ≤ t.size := by
    unfold scanM
    split
    · rename_i h; exact jscanGo_len t _ _ [] (Nat.zero_le _) h.1
    · exact Nat.zero_le _
  unfold unquoteM
  generalize scanM t 0 = x at *
  have h2 := jencAll_len x.2.2
  simp only
  split
  · exact Nat.zero_le _
  · split
    · exact Nat.zero_le _
    · simp only; omega
end Go.Proofs.YtmomildkopainaaDoor

namespace Go.Proofs.YtmomildkopainaaDoor
open Go.RowKit Go.WideMaps Go.Maps

/-- what reads items: the reader, and the level, in boxes of its own -/
def JA (g L b3 b5 : Nat) (r : RS) (_ : List Bs) (W : World) : Prop := Lo (r.own g) W b3 64 #[.pointer (some ⟨g, 0, none⟩)] ∧ Lo (r.own g) W b5 3 #[.int .i64 (L : Int)]
/-- the contract of value at a level, as a hypothesis -/
def ValOk (w0 : World) (g : Nat) (s : ByteArray) (d L : Nat) : Prop := ∀ r W (ka kb : Nat), Rd w0 g s r W → Calls Tryd.prog 29 #[.pointer (some ⟨g, 0, none⟩), .int .i64 (L : Int), .agg #[.int .i64 (ka : Int), .int .i64 (kb : Int)]] W (ValPost w0 g s r d (ka, kb) W)
set_option maxHeartbeats 1000000 in
set_option maxRecDepth 1000000 in
theorem jarr1_any {w0 : World} {g : Nat} {s : ByteArray} {d L b3 b5 : Nat} (hL : L < 1000000) (HV : ValOk w0 g s d (L + 1)) {r : RS} {had : List Bs} {W : World} (h : Rd w0 g s r W) (hj : JA g L b3 b5 r had W) :
    Calls Tryd.prog 111 #[.pointer (some ⟨b3, 0, none⟩), .pointer (some ⟨b5, 0, none⟩)] W (KidPost w0 g s (fun _ => False) (JA g L b3 b5) false d r had W) := by
  have HC := hq (HV r W 0 0 h)
  have c3 := hj.1.cell 0
  have c5 := hj.2.cell 0
  have HJ := hq hj
  have hLL : ((L + 1 : Nat) : Int) = (L : Int) + 1 := by omega
  rw [hLL] at HC
  have HP : Hq (∀ (e : Ending) (W' : World), ValPost w0 g s r d (0, 0) W e W' → KidPost w0 g s (fun _ => False) (JA g L b3 b5) false d r had W e W') := hq (fun e W' hp => by
    unfold ValPost at hp
    unfold KidPost kidM
    rw [if_neg (by simp)]
    cases hv : valueM s.size (keyTx s) d (nbl r.ts) (0, 0) r.ns with
    | inl p =>
      rw [hv] at hp
      obtain ⟨h1, r', h2, h3, h4, h5⟩ := hp
      exact ⟨h1, r', h2, h3.om, h4, h5⟩
    | inr p =>
      rw [hv] at hp
      obtain ⟨h1, r', h2, h3, h4, h5⟩ := hp
      exact ⟨h1, r', h2, ⟨HJ.o.1.step h3, HJ.o.2.step h3⟩, h3.om, h4, h5⟩)
  have HV2 : Hq (∀ (e : Ending) (W' : World), ValPost w0 g s r d (0, 0) W e W' → ∃ (q : Int) (b : Bool), e = .returned (.tuple #[.int .i64 q, .bool b])) := hq (fun e W' hp => by
    unfold ValPost at hp
    cases hv : valueM s.size (keyTx s) d (nbl r.ts) (0, 0) r.ns with
    | inl p => rw [hv] at hp; obtain ⟨⟨q, h1⟩, _⟩ := hp; exact ⟨q, false, h1⟩
    | inr p => rw [hv] at hp; obtain ⟨h1, _⟩ := hp; exact ⟨_, true, h1⟩)
  generalize ValPost w0 g s r d (0, 0) W = VP at *
  generalize KidPost w0 g s (fun _ => False) (JA g L b3 b5) false d r had W = PP at *
  have hw1 : wrap64 ((L : Int) + 1) = (L : Int) + 1 := by unfold wrap64; omega
  clear h hj HJ HV
  go_enter Tryd.func111, Tryd.ntmps111
  go_wp2_with fail
  refine HC.o.mono ?_
  rintro e W2 hp
  obtain ⟨q, b, rfl⟩ := HV2.o _ _ hp
  have HF := hq (HP.o _ _ hp)
  clear hp HC
  go_wp2_with fail
  exact HF.o

set_option maxHeartbeats 1000000 in
set_option maxRecDepth 1000000 in
theorem jarray_any {w0 : World} {g : Nat} {s : ByteArray} {d L : Nat} (hL : L < 1000000) (HV : ValOk w0 g s d (L + 1)) {r : RS} {W : World} (h : Rd w0 g s r W) {k : Nat} (hk : k < r.nv.length) :
    Calls Tryd.prog 77 #[.pointer (some ⟨g, 0, none⟩), .int .i64 (k : Int), .int .i64 (L : Int)] W (fun e W' => ListPost w0 g s (fun _ => False) false d r k W e W') := by
  have hb1 := below_alloc W (.cells #[.pointer (some ⟨g, 0, none⟩)] 64)
  have hb2 := below_alloc (W.alloc (.cells #[.pointer (some ⟨g, 0, none⟩)] 64)) (.cells #[.int .i64 (L : Int)] 3)
  have hR1 := h.grow hb1
  have hL1 : Lo (r.own g) (W.alloc (.cells #[.pointer (some ⟨g, 0, none⟩)] 64)) W.heap.size 64 #[.pointer (some ⟨g, 0, none⟩)] := Lo.new (fun k hk => (h.own_lt k hk).2) _ _
  have hR2 := hR1.grow hb2
  have hL2 : Lo (r.own g) ((W.alloc (.cells #[.pointer (some ⟨g, 0, none⟩)] 64)).alloc (.cells #[.int .i64 (L : Int)] 3)) (W.heap.size + 1) 3 #[.int .i64 (L : Int)] := by
    have := Lo.new (o := r.own g) (W := W.alloc (.cells #[.pointer (some ⟨g, 0, none⟩)] 64)) (fun k hk => (hR1.own_lt k hk).2) 3 #[.int .i64 (L : Int)]
    rw [World.size_alloc] at this
    exact this
  have HC := hq (jlist_any (M := fun _ => False) (J := JA g L W.heap.size (W.heap.size + 1)) (ob := false) (d := d) (enter_arr _) (fun r had W h hj => jarr1_any hL HV h hj) (fun r r' had W W' hj hf _ => ⟨hj.1.step hf, hj.2.step hf⟩) hR2 ⟨hL1.below hb2, hL2⟩ hk)
  have HFR := hq ((Fr.of_below (OM g (fun _ => False) r) hb1).trans (Fr.of_below _ hb2))
  have c3 := (hL1.below hb2).cell 0
  clear hR1 hR2 hL1 hL2 hb1 hb2 h
  have HP : Hq (∀ (e : Ending) (W' : World), ListPost w0 g s (fun _ => False) false d r k ((W.alloc (.cells #[.pointer (some ⟨g, 0, none⟩)] 64)).alloc (.cells #[.int .i64 (L : Int)] 3)) e W' → ∃ b : Bool, e = .returned (.bool b) ∧ ListPost w0 g s (fun _ => False) false d r k W e W') := hq (fun e W' hp => by
    unfold ListPost at hp ⊢
    cases hv : listM (valueM s.size (keyTx s) d) false s.size (keyTx s) k (nbl r.ts) r.ns with
    | inl p =>
      rw [hv] at hp
      obtain ⟨h1, r', h2, h3, h4, h5⟩ := hp
      exact ⟨false, h1, h1, r', h2, HFR.o.trans h3, h4, h5⟩
    | inr p =>
      rw [hv] at hp
      obtain ⟨h1, r', h2, h3, h4, h5⟩ := hp
      exact ⟨true, h1, h1, r', h2, HFR.o.trans h3, h4, h5⟩)
  have hmf : ∀ fn first cap w, (Instr.makeFunc fn first cap).run Tryd.prog w = .ok (.func fn first cap) w := fun _ _ _ _ => rfl
  generalize ListPost w0 g s (fun _ => False) false d r k ((W.alloc (.cells #[.pointer (some ⟨g, 0, none⟩)] 64)).alloc (.cells #[.int .i64 (L : Int)] 3)) = LP at *
  generalize ListPost w0 g s (fun _ => False) false d r k W = PP at *
  have hje : (jendM false : Int) = 5 := rfl
  rw [show ((jendM false : Nat) : Int) = 5 from rfl] at HC
  clear HFR hje
  go_enter Tryd.func77, Tryd.ntmps77
  go_wp2_with fail
  refine HC.o.mono ?_
  rintro e W2 hp
  obtain ⟨b, rfl, hpp⟩ := HP.o _ _ hp
  have HF := hq hpp
  clear hp hpp HC
  go_wp2_with fail
  exact HF.o
end Go.Proofs.YtmomildkopainaaDoor

namespace Go.Proofs.YtmomildkopainaaDoor
open Go.RowKit Go.WideMaps Go.Maps

/-- a block that is none of the reader's has turned -/
theorem Rd.farG {w0 W W' : World} {g : Nat} {s : ByteArray} {r : RS} (h : Rd w0 g s r W) {b : Nat} (hg : W.grownBy W' (some b)) (hp : ¬ r.own g b) (hb : w0.heap.size ≤ b) : Rd w0 g s r W' := by
  refine ⟨whole_kept h.blk hg (fun b' e e2 => by cases e; exact hp (.inl e2)), h.tk, h.tl, h.tm, ?_, ?_, ?_, h.ak, h.ap, h.bl.grown hg h.bl.size (fun k e => by cases e; exact hb), h.gl, h.n4, h.kl⟩
  · exact row_kept h.nd hg fun b e e2 => by cases e; exact hp (.inr (.inl e2))
  · exact fun i hi => row_kept (h.kr i hi) hg fun b e e2 => by cases e; exact hp (.inr (.inr ⟨i, hi, .inl e2⟩))
  · exact fun i hi => row_kept (h.pr i hi) hg fun b e e2 => by cases e; exact hp (.inr (.inr ⟨i, hi, .inr e2⟩))
theorem Lo.farG {o : Nat → Prop} {W W' : World} {b m : Nat} {t : TypeId} {cs : Array Value} (h : Lo o W b t cs) (hg : W.grownBy W' (some m)) (hm : ∃ es c, W.heap[m]? = some (.map es c)) : Lo o W' b t cs := by
  refine ⟨(hg.block b h.at_.lt fun e => ?_).trans h.at_, h.no⟩
  obtain ⟨es, c, hh⟩ := hm
  rw [← Option.some.inj e] at hh
  rw [show W.heap[b]? = _ from h.at_] at hh
  cases hh
theorem HadIn.heap {w : World} {b : Nat} {l : List (Bs × Nat)} (h : HadIn w b l) : ∃ es c, w.heap[b]? = some (.map es c) := by
  obtain ⟨es, c, hb, _⟩ := h
  exact ⟨es, c, hb⟩
theorem read_four {W9 wr W : World} {p0 p1 p2 p3 : Addr} {v0 v1 v2 v3 : Value} (hT : Below wr.heap.size wr W ∧ W.cell? p0 = some v0 ∧ W.cell? p1 = some v1 ∧ W.cell? p2 = some v2 ∧ W.cell? p3 = some v3) (hb : Below W.heap.size W W9) : Below wr.heap.size wr W9 ∧ W9.cell? p0 = some v0 ∧ W9.cell? p1 = some v1 ∧ W9.cell? p2 = some v2 ∧ W9.cell? p3 = some v3 :=
  ⟨below_trans hT.1 hb, (hb.cell (cell_blk' hT.2.1)).trans hT.2.1, (hb.cell (cell_blk' hT.2.2.1)).trans hT.2.2.1, (hb.cell (cell_blk' hT.2.2.2.1)).trans hT.2.2.2.1, (hb.cell (cell_blk' hT.2.2.2.2)).trans hT.2.2.2.2⟩
/-- what reads members: the reader, the keys that were had, the level -/
structure JO (w0 : World) (g L mb b3 b7 b5 e : Nat) (r : RS) (had : List Bs) (W : World) : Prop where
  l3 : Lo (r.own g) W b3 64 #[.pointer (some ⟨g, 0, none⟩)]
  l7 : Lo (r.own g) W b7 157 #[.map (some mb)]
  l5 : Lo (r.own g) W b5 3 #[.int .i64 (L : Int)]
  no : ¬ r.own g mb
  bs : w0.heap.size ≤ mb
  had : ∃ l : List (Bs × Nat), HadIn W mb l ∧ (∀ x, x ∈ had ↔ x ∈ l.map Prod.fst) ∧ l.length ≤ r.nv.length + e
theorem JO.step {w0 : World} {g L mb b3 b7 b5 e e' : Nat} {r r' : RS} {had : List Bs} {W W' : World} (h : JO w0 g L mb b3 b7 b5 e r had W) (f : Fr (r.own g) (r'.own g) W W') (hn : r.nv.length + e ≤ r'.nv.length + e') : JO w0 g L mb b3 b7 b5 e' r' had W' := by
  obtain ⟨l, h1, h2, h3⟩ := h.had
  exact ⟨h.l3.step f, h.l7.step f, h.l5.step f, fun ho => (f.own mb ho).elim h.no fun h' => by have := h1.lt; omega, h.bs, l, h1.same (f.block mb h1.lt h.no), h2, Nat.le_trans h3 hn⟩
section
variable {v : List Tok → Nat × Nat → List JN → JRes} {z : Nat} {tx : Nat → Nat → Bs} {had : List Bs} {l : List Tok} {ns : List JN}
theorem kidM_key {e : JErr} (h : takeM z 8 8 l = .inl e) : kidM v true z tx had l ns = .inl e := by unfold kidM; rw [if_pos rfl, h]
theorem kidM_twice {t : Tok} {r : List Tok} (h : takeM z 8 8 l = .inr (t, r)) (hm : tx t.2.1 t.2.2 ∈ had) : kidM v true z tx had l ns = .inl (t.2.1, 7) := by
  unfold kidM; rw [if_pos rfl, h]; simp only; rw [if_pos hm]
theorem kidM_colon {t : Tok} {r : List Tok} {e : JErr} (h : takeM z 8 8 l = .inr (t, r)) (hm : tx t.2.1 t.2.2 ∉ had) (h2 : takeM z 7 7 r = .inl e) : kidM v true z tx had l ns = .inl e := by
  unfold kidM; rw [if_pos rfl, h]; simp only; rw [if_neg hm, h2]
theorem kidM_val {t t2 : Tok} {r r2 : List Tok} (h : takeM z 8 8 l = .inr (t, r)) (hm : tx t.2.1 t.2.2 ∉ had) (h2 : takeM z 7 7 r = .inr (t2, r2)) : kidM v true z tx had l ns = match v r2 (t.2.1, t.2.2) ns with
    | .inl e => .inl e
    | .inr (l', ns') => .inr (had ++ [tx t.2.1 t.2.2], l', ns') := by
  unfold kidM; rw [if_pos rfl, h]; simp only; rw [if_neg hm, h2]; rfl
end
set_option maxHeartbeats 4000000 in
set_option maxRecDepth 1000000 in
theorem jobj1_any {w0 : World} {g : Nat} {s : ByteArray} {d L mb b3 b7 b5 : Nat} (hL : L < 1000000) (hs : s.size ≤ 65536) (hT : tabs w0) (HV : ValOk w0 g s d (L + 1)) {r : RS} {had : List Bs} {W : World} (h : Rd w0 g s r W) (hj : JO w0 g L mb b3 b7 b5 0 r had W) :
    Calls Tryd.prog 112 #[.pointer (some ⟨b3, 0, none⟩), .pointer (some ⟨b7, 0, none⟩), .pointer (some ⟨b5, 0, none⟩)] W (KidPost w0 g s (fun k => k = mb) (JO w0 g L mb b3 b7 b5 0) true d r had W) := by
  have HPL : Hq (∀ wh er W' r', kidM (valueM s.size (keyTx s) d) true s.size (keyTx s) had (nbl r.ts) r.ns = .inl (wh, er) → Rd w0 g s r' W' → Fr (OM g (fun k => k = mb) r) (OM g (fun k => k = mb) r') W W' → r'.wh = (wh : Int) → r'.er = er → ∀ q : Int, KidPost w0 g s (fun k => k = mb) (JO w0 g L mb b3 b7 b5 0) true d r had W (.returned (.tuple #[.int .i64 q, .bool false])) W') := hq (fun wh er W' r' h1 h2 h3 h4 h5 q => by unfold KidPost; rw [h1]; exact ⟨⟨q, rfl⟩, r', h2, h3, h4, h5⟩)
  have HPR : Hq (∀ had' l ns W' r', kidM (valueM s.size (keyTx s) d) true s.size (keyTx s) had (nbl r.ts) r.ns = .inr (had', l, ns) → Rd w0 g s r' W' → JO w0 g L mb b3 b7 b5 0 r' had' W' → Fr (OM g (fun k => k = mb) r) (OM g (fun k => k = mb) r') W W' → nbl r'.ts = l → r'.ns = ns → KidPost w0 g s (fun k => k = mb) (JO w0 g L mb b3 b7 b5 0) true d r had W (.returned (.tuple #[.int .i64 (r.nv.length : Int), .bool true])) W') := hq (fun had' l ns W' r' h1 h2 hj h3 h4 h5 => by unfold KidPost; rw [h1]; exact ⟨rfl, r', h2, hj, h3, h4, h5⟩)
  generalize hPP : KidPost w0 g s (fun k => k = mb) (JO w0 g L mb b3 b7 b5 0) true d r had W = PP at *
  have HT := hq (jtake_any h 8 8)
  unfold TakePost at HT
  have HJ := hq hj
  have HR := hq h
  have c3 := hj.l3.cell 0
  have hw1 : wrap64 ((L : Int) + 1) = (L : Int) + 1 := by unfold wrap64; omega
  clear hPP h hj
  cases htk : takeM s.size 8 8 (nbl r.ts) with
  | inl e =>
    obtain ⟨wh, er⟩ := e
    rw [htk] at HT
    simp only at HT
    have HK := hq (kidM_key (v := valueM s.size (keyTx s) d) (tx := keyTx s) (had := had) (ns := r.ns) htk)
    clear htk HPR
    go_enter Tryd.func112, Tryd.ntmps112
    go_wp2_with fail
    refine HT.o.mono ?_
    rintro e W2 ⟨rfl, ⟨ts2, o2, cap2, hR2⟩, hF2⟩
    have HV2 := hq (HPL.o wh er _ _ HK.o (hR2.grow (below_alloc W2 (.cells #[.int .i64 0, .int .i64 0, .int .i64 0] 61))) (hF2.om.trans (Fr.of_below _ (below_alloc W2 _))) rfl rfl 0)
    unfold zeroA
    clear hR2 hF2 HT
    go_wp2_with fail
    first | exact HV2.o | (go_ret2; exact HV2.o)
  | inr p =>
    obtain ⟨⟨kd, ta, tb⟩, l2⟩ := p
    rw [htk] at HT
    simp only at HT
    have HTK := hq htk
    clear htk
    go_enter Tryd.func112, Tryd.ntmps112
    go_wp2_with fail
    refine HT.o.mono ?_
    rintro e W2 ⟨rfl, ⟨hab, hbs⟩, ⟨ts2, o2, cap2, hR2, hts2⟩, hF2⟩
    have HT2 := hq (takeM_inr HTK.o)
    obtain ⟨r2, HR3, HJ3, HF3, HB3, HNS3, hts3, hnl⟩ : ∃ r2 : RS, Hq (Rd w0 g s r2 (W2.alloc (.cells #[.int .i64 (kd : Int), .int .i64 (ta : Int), .int .i64 (tb : Int)] 61))) ∧ Hq (JO w0 g L mb b3 b7 b5 0 r2 had (W2.alloc (.cells #[.int .i64 (kd : Int), .int .i64 (ta : Int), .int .i64 (tb : Int)] 61))) ∧ Hq (Fr (OM g (fun k => k = mb) r) (OM g (fun k => k = mb) r2) W (W2.alloc (.cells #[.int .i64 (kd : Int), .int .i64 (ta : Int), .int .i64 (tb : Int)] 61))) ∧
        Hq (Lo (r2.own g) (W2.alloc (.cells #[.int .i64 (kd : Int), .int .i64 (ta : Int), .int .i64 (tb : Int)] 61)) W2.heap.size 61 #[.int .i64 (kd : Int), .int .i64 (ta : Int), .int .i64 (tb : Int)]) ∧ Hq (r2.ns = r.ns) ∧ Hq (nbl r2.ts = l2) ∧ Hq (r2.nv.length = r.nv.length) :=
      ⟨r.at ts2 o2 cap2, hq (hR2.grow (below_alloc W2 _)), hq ((HJ.o.step (r' := r.at ts2 o2 cap2) hF2 (Nat.le_refl _)).step (Fr.of_below _ (below_alloc W2 _)) (Nat.le_refl _)), hq (hF2.om.trans (Fr.of_below _ (below_alloc W2 _))), hq (Lo.new (fun k hk => (hR2.own_lt k hk).2) _ _), hq rfl, hq hts2, hq rfl⟩
    unfold tokA
    dsimp only
    clear hR2 hts2 hF2 HT HR HJ c3
    go_upto_region 4 with fail
    generalize hW3 : W2.alloc (.cells #[.int .i64 (kd : Int), .int .i64 (ta : Int), .int .i64 (tb : Int)] 61) = W3 at *
    generalize W2.heap.size = bx at *
    clear hW3
    have c3 := HJ3.o.l3.cell 0
    have c0 := HR3.o.cells.1
    have x1 := HB3.o.cell 1
    have x2 := HB3.o.cell 2
    have hz1 : (0 : Int) ≤ (ta : Int) := by omega
    have hz2 : (ta : Int) ≤ (tb : Int) := by omega
    have hz3 : (tb : Int) ≤ (s.size : Int) := by omega
    have HU := hq (fun WW (hb : Below W3.heap.size W3 WW) => unquote_any (s.extract ta tb) WW (tabs_grow (tabs_grow hT HR3.o.bl) hb) (by rw [ByteArray.size_extract]; omega))
    unfold UnqPost at HU
    have HNM : Hq (keyTx s ta tb = (unquoteM (s.extract ta tb)).1) := hq rfl
    have HNL := hq (unq_len (s.extract ta tb))
    generalize unquoteM (s.extract ta tb) = U at *
    obtain ⟨nm, u1, u2⟩ := U
    simp only at HU HNM HNL
    have hnmz : nm.length ≤ maxLen := by
      have := HNL.o
      rw [ByteArray.size_extract] at this
      unfold maxLen
      omega
    have hcl := And.intro (Below.refl W3.heap.size W3).drew (And.intro c3 (And.intro c0 (And.intro x1 x2)))
    go_region_held3 (fun W => Below W3.heap.size W3 W ∧ W.cell? ⟨b3, 0, none⟩ = some (.pointer (some ⟨g, 0, none⟩)) ∧ W.cell? ⟨g, 0, none⟩ = some (.string s) ∧ W.cell? ⟨bx, 1, none⟩ = some (.int .i64 (ta : Int)) ∧ W.cell? ⟨bx, 2, none⟩ = some (.int .i64 (tb : Int)))
      (first | exact ⟨(Below.refl _ _).drew, c3, c0, x1, x2⟩ | exact hT2)
      ((go_at_call 63; refine (HU.o _ (And.left (by assumption))).mono ?_; rintro e' w9 ⟨rfl, hb9⟩; have hT2 : Below W3.heap.size W3 w9 ∧ w9.cell? ⟨b3, 0, none⟩ = some (.pointer (some ⟨g, 0, none⟩)) ∧ w9.cell? ⟨g, 0, none⟩ = some (.string s) ∧ w9.cell? ⟨bx, 1, none⟩ = some (.int .i64 (ta : Int)) ∧ w9.cell? ⟨bx, 2, none⟩ = some (.int .i64 (tb : Int)) := read_four (by assumption) hb9))
    have HR9 := hq (HR3.o.grow hT2.1)
    have HJ9 := hq (HJ3.o.step (e' := 0) (r' := r2) (Fr.of_below _ hT2.1) (Nat.le_refl _))
    have HB9 := hq (HB3.o.below hT2.1)
    have HF9 := hq (HF3.o.trans (Fr.of_below _ hT2.1))
    clear hT2 hcl c3 c0 x1 x2 HU HR3 HJ3 HB3 HF3 hz1 hz2 hz3
    obtain ⟨l, hin, hiff, hll⟩ := HJ9.o.had
    obtain ⟨lv, hlk⟩ := look_had hin hnmz
    have c3 := HJ9.o.l3.cell 0
    have c7 := HJ9.o.l7.cell 0
    have x1 := HB9.o.cell 1
    have HIFF := hq hiff
    by_cases hm : nm ∈ had
    · rw [decide_eq_true ((hiff nm).1 hm)] at hlk
      have HK : Hq (kidM (valueM s.size (keyTx s) d) true s.size (keyTx s) had (nbl r.ts) r.ns = .inl (ta, 7)) := hq (kidM_twice HTK.o (by rw [HNM.o]; exact hm))
      have HC := hq (jfail_any HR9.o 7 (ta : Int))
      clear hiff hin hm HPR
      go_wp2_with fail
      refine HC.o.mono ?_
      rintro e W10 ⟨rfl, hR10, hF10⟩
      have HV2 := hq (HPL.o ta 7 W10 _ HK.o hR10 (HF9.o.trans hF10.om) rfl rfl 0)
      clear hR10 hF10
      go_wp2_with fail
      first | exact HV2.o | (go_ret2; exact HV2.o)
    · rw [decide_eq_false (fun h => hm ((hiff nm).2 h))] at hlk
      have HMM := hq hm
      have hkey := key_stJ hnmz
      have hwf := wf_i64J ta (by omega)
      have hn4 := HR9.o.n4
      unfold HadIn at hin
      clear hiff hm
      go_wp2_with (at_mapUpdate; refine wpList_mapUpdate_own _ rfl _ _ _ 157 rfl 9 3 strKeyedJ Tryd.underlying157 _ mb l.length _ rfl hin (by unfold maxLen; omega) _ _ _ rfl rfl hkey _ [] (plainElem_int Tryd.underlying3 hwf) ?_)
      intro W10 hown10 hgrow10
      have hmap := HadIn.heap (l := l) (b := mb) hin
      have HR10 := hq (HR9.o.farG hgrow10 HJ9.o.no HJ9.o.bs)
      have HB10 := hq (HB9.o.farG hgrow10 hmap)
      have HF10 := hq (HF9.o.grown hgrow10 (fun k e => .inr (Option.some.inj e).symm) (fun k h => .inl h))
      have HJ10 : Hq (JO w0 g L mb b3 b7 b5 1 r2 (had ++ [nm]) W10) := hq ⟨HJ9.o.l3.farG hgrow10 hmap, HJ9.o.l7.farG hgrow10 hmap, HJ9.o.l5.farG hgrow10 hmap, HJ9.o.no, HJ9.o.bs, (nm, ta) :: l, hown10, fun x => by
        rw [List.mem_append, List.mem_singleton, List.map_cons, List.mem_cons, HIFF.o x]
        exact Or.comm, by rw [List.length_cons]; omega⟩
      clear hmap hgrow10 hown10 hin hlk c3 c7 x1 HJ9 HB9 HF9 HR9 HIFF
      have HT := hq (jtake_any HR10.o 7 7)
      unfold TakePost at HT
      rw [hts3.o] at HT
      have c3 := HJ10.o.l3.cell 0
      cases htk : takeM s.size 7 7 l2 with
      | inl e =>
        obtain ⟨wh, er⟩ := e
        rw [htk] at HT
        simp only at HT
        have HK : Hq (kidM (valueM s.size (keyTx s) d) true s.size (keyTx s) had (nbl r.ts) r.ns = .inl (wh, er)) := hq (kidM_colon HTK.o (by rw [HNM.o]; exact HMM.o) htk)
        clear htk HPR
        go_wp2_with fail
        refine HT.o.mono ?_
        rintro e W11 ⟨rfl, ⟨ts2, o2, cap2, hR11⟩, hF11⟩
        have HV2 := hq (HPL.o wh er _ _ HK.o (hR11.grow (below_alloc W11 (.cells #[.int .i64 0, .int .i64 0, .int .i64 0] 61))) ((HF10.o.trans hF11.om).trans (Fr.of_below _ (below_alloc W11 _))) rfl rfl 0)
        unfold zeroA
        clear hR11 hF11 HT
        go_wp2_with fail
        first | exact HV2.o | (go_ret2; exact HV2.o)
      | inr p =>
        obtain ⟨⟨kd4, ta4, tb4⟩, l4⟩ := p
        rw [htk] at HT
        simp only at HT
        have HK : Hq (kidM (valueM s.size (keyTx s) d) true s.size (keyTx s) had (nbl r.ts) r.ns = match valueM s.size (keyTx s) d l4 (ta, tb) r.ns with
            | .inl e => .inl e
            | .inr (l', ns') => .inr (had ++ [nm], l', ns')) := hq (by
          rw [kidM_val HTK.o (by rw [HNM.o]; exact HMM.o) htk]
          simp only [HNM.o])
        clear htk
        go_wp2_with fail
        refine HT.o.mono ?_
        rintro e W11 ⟨rfl, _, ⟨ts4, o4, cap4, hR11, hts4⟩, hF11⟩
        obtain ⟨r4, HR12, HJ12, HF12, HB12, HNS4, hts5, hnl4⟩ : ∃ r4 : RS, Hq (Rd w0 g s r4 (W11.alloc (.cells #[.int .i64 (kd4 : Int), .int .i64 (ta4 : Int), .int .i64 (tb4 : Int)] 61))) ∧ Hq (JO w0 g L mb b3 b7 b5 1 r4 (had ++ [nm]) (W11.alloc (.cells #[.int .i64 (kd4 : Int), .int .i64 (ta4 : Int), .int .i64 (tb4 : Int)] 61))) ∧ Hq (Fr (OM g (fun k => k = mb) r) (OM g (fun k => k = mb) r4) W (W11.alloc (.cells #[.int .i64 (kd4 : Int), .int .i64 (ta4 : Int), .int .i64 (tb4 : Int)] 61))) ∧
            Hq (Lo (r4.own g) (W11.alloc (.cells #[.int .i64 (kd4 : Int), .int .i64 (ta4 : Int), .int .i64 (tb4 : Int)] 61)) bx 61 #[.int .i64 (kd : Int), .int .i64 (ta : Int), .int .i64 (tb : Int)]) ∧ Hq (r4.ns = r.ns) ∧ Hq (nbl r4.ts = l4) ∧ Hq (r4.nv.length = r.nv.length) :=
          ⟨r2.at ts4 o4 cap4, hq (hR11.grow (below_alloc W11 _)), hq ((HJ10.o.step (r' := r2.at ts4 o4 cap4) (e' := 1) hF11 (Nat.le_refl _)).step (Fr.of_below _ (below_alloc W11 _)) (Nat.le_refl _)), hq ((HF10.o.trans hF11.om).trans (Fr.of_below _ (below_alloc W11 _))), hq ((HB10.o.step hF11).step (Fr.of_below _ (below_alloc W11 _))), HNS3, hq hts4, hnl⟩
        unfold tokA
        dsimp only
        clear hR11 hts4 hF11 HT HR10 HJ10 HF10 HB10 c3
        have c3 := HJ12.o.l3.cell 0
        have c5 := HJ12.o.l5.cell 0
        have x1 := HB12.o.cell 1
        have x2 := HB12.o.cell 2
        have HC := hq (HV r4 _ ta tb HR12.o)
        have hLL : ((L + 1 : Nat) : Int) = (L : Int) + 1 := by omega
        rw [hLL] at HC
        unfold ValPost at HC
        rw [hts5.o, HNS4.o, hnl4.o] at HC
        cases hvv : valueM s.size (keyTx s) d l4 (ta, tb) r.ns with
        | inl e =>
          obtain ⟨wh, er⟩ := e
          rw [hvv] at HC HK
          simp only at HC HK
          clear hvv HPR
          go_wp2_with fail
          refine HC.o.mono ?_
          rintro e W13 ⟨⟨q, rfl⟩, r5, hR13, hF13, hwh, her⟩
          have HV2 := hq (HPL.o wh er _ _ HK.o hR13 (HF12.o.trans hF13.om) hwh her q)
          clear hR13 hF13 hwh her HC
          go_wp2_with fail
          first | exact HV2.o | (go_ret2; exact HV2.o)
        | inr p =>
          obtain ⟨l', ns'⟩ := p
          have HX := hq (valueM_ext _ _ _ _ _ _ _ _ hvv)
          rw [hvv] at HC HK
          simp only at HC HK
          clear hvv HPL
          go_wp2_with fail
          refine HC.o.mono ?_
          rintro e W13 ⟨rfl, r5, hR13, hF13, hts13, hns13⟩
          have hl13 : r4.nv.length + 1 ≤ r5.nv.length := by
            have h1 := HX.o.ln
            rw [← hns13, RS.ns_len, RS.ns_len] at h1
            have h2 := hnl4.o
            omega
          have HV2 := hq (HPR.o (had ++ [nm]) l' ns' _ _ HK.o hR13 (HJ12.o.step (e' := 0) hF13 hl13) (HF12.o.trans hF13.om) hts13 hns13)
          clear hR13 hF13 hts13 hns13 hl13 HC
          go_wp2_with fail
          first | exact HV2.o | (go_ret2; exact HV2.o)
end Go.Proofs.YtmomildkopainaaDoor
