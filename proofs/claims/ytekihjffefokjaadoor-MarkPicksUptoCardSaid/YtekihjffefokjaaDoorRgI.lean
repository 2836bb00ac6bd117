/-
  A REGION THAT DRAWS ITS ORDER, BY AN INVARIANT; rows of the region's own, apart from one another.
-/
import Derived.Test.YtekihjffefokjaaDoorMkJ
import Derived.RegionTactic
import Derived.Maps.AppendAt
namespace Go.Proofs.YtekihjffefokjaaDoor
open Go.RowKit

theorem cnt_set : ∀ (l : List Bool) (i : Nat), l[i]? = some false → (l.set i true).count false + 1 = l.count false
  | [], i, h => by simp at h
  | b :: l, 0, h => by
    simp at h
    subst h
    simp
  | b :: l, i + 1, h => by
    have := cnt_set l i (by simpa using h)
    simp only [List.set_cons_succ, List.count_cons]
    omega
theorem cnt_pos {l : List Bool} {i : Nat} (h : l[i]? = some false) : 1 ≤ l.count false := by have := cnt_set l i h; omega
section
variable {P : Program} {ops : Array Oper} {Q : Exit → Act → World → Prop}
theorem wpAny_inv (I : (Nat → Bool) → Act → World → Prop)
    (hs : ∀ b a w i o, ops[i]? = some o → b i = false → (∀ e ∈ o.after, Region.binds .any e = true → b e.on = true) → I b a w → wpOp P ops Q i (I (fun j => if j = i then true else b j)) a w)
    (he : ∀ b a w, I b a w → (∀ i o, ops[i]? = some o → (∀ e ∈ o.after, Region.binds .any e = true → b e.on = true) → b i = true) → Q .normal a w) :
    ∀ (fuel : Nat) (L : Array Bool) (a : Act) (w : World), L.size = ops.size → L.toList.count false ≤ fuel → I (fun j => L.getD j false) a w → wpAny P .any ops Q fuel L a w := by
  have nd : ∀ (L : Array Bool) a w, L.size = ops.size → I (fun j => L.getD j false) a w → Region.ready .any ops L = [] → Q .normal a w := fun L a w hz hI hr => by
    refine he _ a w hI fun i o ho hd => ?_
    by_cases hb : L.getD i false = true
    · exact hb
    · have hi : i < L.size := by rw [hz]; exact (Array.getElem?_eq_some_iff.1 ho).1
      have h1 : i ∈ Region.ready .any ops L := mem_ready.2 ⟨by simp [hi] at hb ⊢; exact hb, o, ho, hd⟩
      rw [hr] at h1
      cases h1
  have ls : ∀ (L : Array Bool) i, i ∈ Region.ready .any ops L → L.size = ops.size → L.toList[i]? = some false := fun L i hi hz => by
    obtain ⟨h1, o, ho, _⟩ := mem_ready.1 hi
    have hi : i < L.size := by rw [hz]; exact (Array.getElem?_eq_some_iff.1 ho).1
    rw [Array.getElem?_toList, Array.getElem?_eq_getElem hi]
    simp [hi] at h1
    rw [h1]
  intro fuel
  induction fuel with
  | zero =>
    intro L a w hz hc hI
    have hr : Region.ready .any ops L = [] := List.eq_nil_iff_forall_not_mem.2 fun i hi => by
      have := cnt_pos (ls L i hi hz)
      omega
    exact ⟨hr, nd L a w hz hI hr⟩
  | succ fuel ih =>
    intro L a w hz hc hI
    refine ⟨nd L a w hz hI, fun i hi => ?_⟩
    have hl := ls L i hi hz
    obtain ⟨h1, o, ho, hd⟩ := mem_ready.1 hi
    have hiz : i < L.size := by rw [hz]; exact (Array.getElem?_eq_some_iff.1 ho).1
    refine wpOp_mono (fun a' w' h => ?_) (hs _ a w i o ho (by simp [hiz] at h1 ⊢; exact h1) hd hI)
    refine ih (L.setIfInBounds i true) a' w' (by rw [Array.size_setIfInBounds]; exact hz) ?_ ?_
    · have := cnt_set _ i hl
      rw [Array.toList_setIfInBounds]
      omega
    · have e : (fun j => if j = i then true else L.getD j false) = fun j => (L.setIfInBounds i true).getD j false := by
        funext j
        by_cases hj : j = i
        · subst hj
          rw [if_pos rfl]
          simp [hiz]
        · rw [if_neg hj]
          simp only [Array.getD_eq_getD_getElem?]
          rw [Array.getElem?_setIfInBounds_ne (fun h => hj h.symm)]
      rw [← e]
      exact h
theorem region_inv {id : Nat} {a : Act} {w : World} (hm : P.follows .mixedOrders = true) (I : (Nat → Bool) → Act → World → Prop) (h0 : I (fun _ => false) a w.drew)
    (hs : ∀ b a w i o, ops[i]? = some o → b i = false → (∀ e ∈ o.after, Region.binds .any e = true → b e.on = true) → I b a w → wpOp P ops Q i (I (fun j => if j = i then true else b j)) a w)
    (he : ∀ b a w, I b a w → (∀ i o, ops[i]? = some o → (∀ e ∈ o.after, Region.binds .any e = true → b e.on = true) → b i = true) → Q .normal a w) :
    (Code.region id ops true).wp P Q a w := by
  refine wp_region_any hm (wpAny_inv I hs he ops.size _ a _ (by simp) (by simp) ?_)
  have e : (fun j => (Array.replicate ops.size false).getD j false) = fun _ => false := by
    funext j
    simp only [Array.getD_eq_getD_getElem?, Array.getElem?_replicate]
    split <;> rfl
  rw [e]
  exact h0
end

/-- a row of the region's own -/
structure Own where
  e : TypeId
  size : Nat
  v : Value
  n : Nat
  xs : List Value
def nilOwn : Own := ⟨0, 0, .slice none 0 0, 0, []⟩
def noOwn (e : TypeId) (size : Nat) : Own := ⟨e, size, .slice none 0 0, 0, []⟩
def Apart (v v' : Value) : Prop := ∀ k, v.ownBlock = some k → v'.ownBlock ≠ some k
def updO (f : Nat → Own) (k : Nat) (o : Own) : Nat → Own := fun j => if j = k then o else f j
/-- rows of the region's own, no two in one block -/
structure Owns (w0 w : World) (f : Nat → Own) : Prop where
  bel : Below w0.heap.size w0 w
  own : ∀ k, w.ownsRow w0.heap.size (f k).e (f k).size (f k).v (f k).n (f k).xs
  ap : ∀ j k, j ≠ k → Apart (f j).v (f k).v
section
variable {w0 w : World} {f : Nat → Own}
theorem Owns.start (h : Below w0.heap.size w0 w) (hf : ∀ k, (f k).v = .slice none 0 0 ∧ (f k).n = 0 ∧ (f k).xs = []) : Owns w0 w f := by
  refine ⟨h, fun k => ?_, fun j k _ i hi => ?_⟩
  · obtain ⟨h1, h2, h3⟩ := hf k
    rw [h1, h2, h3]
    exact World.ownsRow_nil _ _ _ _
  · rw [(hf j).1] at hi
    cases hi
theorem Owns.same {g : Nat → Own} (h : Owns w0 w f) (e : ∀ k, g k = f k) : Owns w0 w g := by
  have : g = f := funext e
  rw [this]; exact h
/-- a new row -/
theorem Owns.new (h : Owns w0 w f) (k : Nat) {e : TypeId} {size n : Nat} {cs : List Value} {C : Array Value} (hC : C = cs.toArray) (hl : cs.length = n * size) (hn : n ≤ maxLen) :
    Owns w0 (w.alloc (.cells C e)) (updO f k ⟨e, size, .slice (some ⟨w.heap.size, 0, none⟩) n n, n, cs⟩) := by
  subst hC
  refine ⟨h.bel.alloc h.bel.size _, fun j => ?_, fun j i hji q hq => ?_⟩
  · unfold updO
    by_cases hj : j = k
    · rw [if_pos hj]
      exact ⟨hl, .inr ⟨w.heap.size, n, cs.toArray, rfl, h.bel.size, heap_alloc_new w _, Nat.le_refl _, hn, by simpa using hl, by simp [← hl]⟩⟩
    · rw [if_neg hj]
      exact (h.own j).alloc _
  · unfold updO at hq ⊢
    by_cases hj : j = k
    · rw [if_pos hj] at hq
      rw [if_neg (fun e => hji (hj.trans e.symm))]
      intro hi
      have h1 := ((h.own i).lt q hi).2
      have h2 : w.heap.size = q := Option.some.inj hq
      omega
    · rw [if_neg hj] at hq
      by_cases hi : i = k
      · rw [if_pos hi]
        intro h2
        have h1 := ((h.own j).lt q hq).2
        have h3 : w.heap.size = q := Option.some.inj h2
        omega
      · rw [if_neg hi]
        exact h.ap j i hji q hq
/-- a row appended to -/
theorem Owns.app (h : Owns w0 w f) (k : Nat) {w' : World} {v' : Value} {n : Nat} {xs : List Value} (ho : w'.ownsRow w0.heap.size (f k).e (f k).size v' n xs) (hg : w.grownBy w' (f k).v.ownBlock) (ha : v'.ownBlock = (f k).v.ownBlock ∨ v'.ownBlock = some w.heap.size) :
    Owns w0 w' (updO f k ⟨(f k).e, (f k).size, v', n, xs⟩) := by
  have key : ∀ j, j ≠ k → (f j).v.ownBlock = none ∨ (f j).v.ownBlock ≠ (f k).v.ownBlock := fun j hj => by
    cases hv : (f j).v.ownBlock with
    | none => exact .inl rfl
    | some q => exact .inr (fun e => h.ap j k hj q hv (by rw [← e]))
  refine ⟨h.bel.grown hg h.bel.size (fun j ej => ((h.own k).lt j ej).1), fun j => ?_, fun j i hji q hq => ?_⟩
  · unfold updO
    by_cases hj : j = k
    · rw [if_pos hj]; exact ho
    · rw [if_neg hj]
      exact (h.own j).kept hg (key j hj)
  · unfold updO at hq ⊢
    by_cases hj : j = k
    · rw [if_pos hj] at hq
      have hik : i ≠ k := fun e => hji (hj.trans e.symm)
      rw [if_neg hik]
      intro hi
      rcases ha with ha | ha
      · exact h.ap k i (Ne.symm hik) q (by rw [← ha]; exact hq) hi
      · have h1 := ((h.own i).lt q hi).2
        have h2 : some w.heap.size = some q := ha.symm.trans hq
        have := Option.some.inj h2
        omega
    · rw [if_neg hj] at hq
      by_cases hi : i = k
      · rw [if_pos hi]
        intro h2
        rcases ha with ha | ha
        · exact h.ap j k hj q hq (by rw [← ha]; exact h2)
        · have h1 := ((h.own j).lt q hq).2
          have h3 : some w.heap.size = some q := ha.symm.trans h2
          have := Option.some.inj h3
          omega
      · rw [if_neg hi]
        exact h.ap j i hji q hq
/-- below all of them -/
theorem Owns.grow (h : Owns w0 w f) {w' : World} (hb : Below w.heap.size w w') : Owns w0 w' f :=
  ⟨h.bel.trans (hb.mono h.bel.size), fun k => (h.own k).kept (row := none) ⟨hb.os, hb.tape, hb.output, hb.size, fun j hj _ => hb.block j hj⟩ (by cases hv : (f k).v.ownBlock <;> simp), h.ap⟩
end
/-- append of a source that may be nil, at the operation -/
theorem wp_append_src {P : Program} (w : World) {o : Oper} {a : Act} {K : Act → World → Prop} {Q : Exit → Act → World → Prop} (s x : Operand) (t : TypeId)
    (ho : o.op = .call { callee := .builtin .append, args := #[s, x], argTypes := #[t, t] })
    (base : Nat) (e : TypeId) (i : TypeInfo) (z : Value) (size bytes : Nat) (ht : P.underlying t = some (.slice e)) (hi : P.info? e = some i) (hz : i.zero = some z)
    (hsize : i.size = size) (hby : i.bytes = bytes) (hzs : z.cells.size = size) (hsz : 0 < size)
    (v : Value) (n : Nat) (xs : List Value) (hs : a.eval s = v) (hown : w.ownsRow base e size v n xs)
    (ao : Option Addr) (m c : Nat) (news : List Value) (hx : a.eval x = .slice ao m c) (hn : ao = none → c = 0) (hmc : m ≤ c) (hl : news.length = m * size) (hnews : ∀ ad, ao = some ad → ∀ j u, news[j]? = some u → w.cell? (ad.add j) = some u) (h1 : ∀ u ∈ news, u.oneCell' = true)
    (h63 : n + m ≤ maxLen) (hbytes : (n + m) * bytes ≤ 140737488355328) (hbase : base ≤ w.heap.size)
    (h : ∀ v' w', w'.ownsRow base e size v' (n + m) (xs ++ news) → w.grownBy w' v.ownBlock → (v'.ownBlock = v.ownBlock ∨ v'.ownBlock = some w.heap.size) → K (a.put o.dst v') w') : o.wp P a w K Q := by
  cases ao with
  | none =>
    obtain rfl : c = 0 := hn rfl
    obtain rfl : m = 0 := Nat.le_zero.1 hmc
    obtain rfl : news = [] := List.eq_nil_of_length_eq_zero (by rw [hl, Nat.zero_mul])
    have hrun := run_append_owned_none (P := P) (w := w) base t o.type e i size ht hi v n xs hown
    unfold Oper.wp
    simp [execOp, ho, resolve, invoke, builtin, hs, hx, hrun, Result.andThen]
    exact h v w (by rw [List.append_nil]; exact hown) ⟨rfl, rfl, rfl, Nat.le_refl _, fun _ _ _ => rfl⟩ (.inl rfl)
  | some ad =>
    obtain ⟨v', w', hr, h2, h3, _, h5⟩ := run_append_own_at (P := P) w base t o.type e i z size bytes ht hi hz hsize hby hzs hsz v n xs hown ad m c news hl (hnews ad rfl) h1 h63 hbytes hbase
    unfold Oper.wp execOp
    simp only [ho, resolve, invoke, builtin, Sem.run_bind, Sem.run_pure, Result.andThen_ok, List.map_toArray, List.map_cons, List.map_nil, hs, hx, hr]
    exact h v' w' h2 h3 h5
end Go.Proofs.YtekihjffefokjaaDoor
