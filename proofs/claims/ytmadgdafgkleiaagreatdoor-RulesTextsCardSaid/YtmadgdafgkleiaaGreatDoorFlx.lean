/-
  A REGION THAT DRAWS ITS ORDER, as a flow, with stores into boxes of the region's own: one walk an operation, whatever the order.
-/
import Derived.Test.YtmadgdafgkleiaaGreatDoorFlw
namespace Go.Proofs.YtmadgdafgkleiaaGreatDoor
open Go.RowKit
def boxOf (st : List (Nat × Nat)) (s : Nat) : Option Nat := (st.find? (fun x => x.1 == s)).map (·.2)
def goneB (st : List (Nat × Nat)) (L : Nat → Bool) (k : Nat) : Bool := st.any fun x => x.2 == k && L x.1
def flowSB (ops : Array Oper) (ns : List Nat) (rs : List (List Nat)) (st : List (Nat × Nat)) (dp : List (List Nat)) : Bool :=
  slotsB ops ns && ns.all (fun i => decide (i < ops.size) && !(st.map (·.1)).contains i) &&
  (List.range ops.size).all (fun i => (ns.contains i || (st.map (·.1)).contains i) && (ops[i]?.map (fun o => o.after.all (fun e => !Region.binds .any e || decide (e.on < i)))).getD false) &&
  ns.all (fun i => (rs.getD i []).contains i && (rs.getD i []).all (fun j => ns.contains j && (rs.getD j []).all (fun m => (rs.getD i []).contains m) &&
    (j == i || (ops[i]?.map (fun o => o.after.any (fun e => Region.binds .any e && (rs.getD e.on []).contains j && ns.contains e.on))).getD false) && (j == i || !(st.map (·.2)).contains j))) &&
  st.all (fun x => ns.contains x.2 && (rs.getD x.1 [] == [x.1]) && decide (x.1 < ops.size) && (dOf ops x.1).isNone && (boxOf st x.1 == some x.2) && st.all (fun y => y.2 != x.2 || y.1 == x.1) &&
    (x.2 :: dp.getD x.1 []).all (fun j => ns.contains j && (j == x.2 || !(st.map (·.2)).contains j) && (ops[x.1]?.map (fun o => o.after.any (fun e => Region.binds .any e && ns.contains e.on && (rs.getD e.on []).contains j))).getD false))
section
variable {P : Program} {ops : Array Oper} {Q : Exit → Act → World → Prop}
structure LaterS (B : Nat) (w0 : World) (rs : List (List Nat)) (lo hi : Nat → Nat) (i : Nat) (w w' : World) : Prop where
  bel : Below B w0 w'
  size : w.heap.size ≤ w'.heap.size
  block : ∀ b j, j ∈ rs.getD i [] → lo j ≤ b → b < hi j → w'.heap[b]? = w.heap[b]?
structure FlowS (B : Nat) (w0 : World) (a0 : Act) (ops : Array Oper) (ns : List Nat) (rs : List (List Nat)) (st : List (Nat × Nat)) (R : Nat → Value → Nat → Nat → World → Prop) (sv : Nat → Nat) (L : Nat → Bool) (f : Nat → Value) (lo hi : Nat → Nat) (a : Act) (w : World) : Prop where
  act : a = putA ops ns f a0
  bel : Below B w0 w
  deps : ∀ i o, ops[i]? = some o → L i = true → ∀ e ∈ o.after, Region.binds .any e = true → L e.on = true
  reach : ∀ i, L i = true → ∀ j ∈ rs.getD i [], L j = true
  iv : ∀ i, L i = true → B ≤ lo i ∧ lo i ≤ hi i ∧ hi i ≤ w.heap.size
  ap : ∀ i j, L i = true → L j = true → goneB st L i = false → goneB st L j = false → i ≠ j → hi i ≤ lo j ∨ hi j ≤ lo i
  fact : ∀ i, L i = true → goneB st L i = false → ∀ w', LaterS B w0 rs lo hi i w w' → R i (f (sv i)) (lo i) (hi i) w'
def StoresT (P : Program) (ops : Array Oper) (Q : Exit → Act → World → Prop) (w : World) (dp : List (List Nat)) (R : Nat → Value → Nat → Nat → World → Prop) (sv : Nat → Nat) (A : (Nat → Value) → Act) (l : List (Nat × Nat)) : Prop :=
  ∀ x ∈ l, ∀ o, ops[x.1]? = some o → ∀ (f : Nat → Value) (lo hi : Nat → Nat) (w' : World), Below w.heap.size w w' → w.heap.size ≤ lo x.2 → (∀ j ∈ x.2 :: dp.getD x.1 [], R j (f j) (lo j) (hi j) w') →
    ∀ K : Act → World → Prop, (∀ w'', Below w.heap.size w w'' → w''.heap.size = w'.heap.size → (∀ b, b < w'.heap.size → ¬(lo x.2 ≤ b ∧ b < hi x.2) → w''.heap[b]? = w'.heap[b]?) → (∀ W, Below w.heap.size w W → w''.heap.size ≤ W.heap.size → (∀ b, lo x.2 ≤ b → b < hi x.2 → W.heap[b]? = w''.heap[b]?) → R x.1 (f (sv x.1)) (lo x.2) (hi x.2) W) → K (A f) w'') →
      if Region.wanted o (yielded ops (A f).tmps) = true then Oper.wp P o (A f) w' K Q else K ((A f).put o.dst undef) w'
theorem StoresT.nil {w : World} {dp : List (List Nat)} {R : Nat → Value → Nat → Nat → World → Prop} {sv : Nat → Nat} {A : (Nat → Value) → Act} : StoresT P ops Q w dp R sv A [] := fun x hx => by cases hx
theorem StoresT.cons {w : World} {dp : List (List Nat)} {R : Nat → Value → Nat → Nat → World → Prop} {sv : Nat → Nat} {A : (Nat → Value) → Act} {s k : Nat} {l : List (Nat × Nat)} {o : Oper} (ho : ops[s]? = some o)
    (h : ∀ (f : Nat → Value) (lo hi : Nat → Nat) (w' : World), Below w.heap.size w w' → w.heap.size ≤ lo k → (∀ j ∈ k :: dp.getD s [], R j (f j) (lo j) (hi j) w') →
    ∀ K : Act → World → Prop, (∀ w'', Below w.heap.size w w'' → w''.heap.size = w'.heap.size → (∀ b, b < w'.heap.size → ¬(lo k ≤ b ∧ b < hi k) → w''.heap[b]? = w'.heap[b]?) → (∀ W, Below w.heap.size w W → w''.heap.size ≤ W.heap.size → (∀ b, lo k ≤ b → b < hi k → W.heap[b]? = w''.heap[b]?) → R s (f (sv s)) (lo k) (hi k) W) → K (A f) w'') →
      if Region.wanted o (yielded ops (A f).tmps) = true then Oper.wp P o (A f) w' K Q else K ((A f).put o.dst undef) w')
    (hs : StoresT P ops Q w dp R sv A l) : StoresT P ops Q w dp R sv A ((s, k) :: l) := fun x hx => by
  rcases List.mem_cons.1 hx with rfl | hx
  · intro o' ho'
    obtain rfl := Option.some.inj (ho.symm.trans ho')
    exact h
  · exact hs x hx
def StoresS (P : Program) (ops : Array Oper) (Q : Exit → Act → World → Prop) (w : World) (dp : List (List Nat)) (R : Nat → Value → Nat → Nat → World → Prop) (A : (Nat → Value) → Act) (l : List (Nat × Nat)) : Prop := StoresT P ops Q w dp R id A l
theorem StoresS.nil {w : World} {dp : List (List Nat)} {R : Nat → Value → Nat → Nat → World → Prop} {A : (Nat → Value) → Act} : StoresS P ops Q w dp R A [] := StoresT.nil
theorem StoresS.cons {w : World} {dp : List (List Nat)} {R : Nat → Value → Nat → Nat → World → Prop} {A : (Nat → Value) → Act} {s k : Nat} {l : List (Nat × Nat)} {o : Oper} (ho : ops[s]? = some o)
    (h : ∀ (f : Nat → Value) (lo hi : Nat → Nat) (w' : World), Below w.heap.size w w' → w.heap.size ≤ lo k → (∀ j ∈ k :: dp.getD s [], R j (f j) (lo j) (hi j) w') →
    ∀ K : Act → World → Prop, (∀ w'', Below w.heap.size w w'' → w''.heap.size = w'.heap.size → (∀ b, b < w'.heap.size → ¬(lo k ≤ b ∧ b < hi k) → w''.heap[b]? = w'.heap[b]?) → (∀ W, Below w.heap.size w W → w''.heap.size ≤ W.heap.size → (∀ b, lo k ≤ b → b < hi k → W.heap[b]? = w''.heap[b]?) → R s (f s) (lo k) (hi k) W) → K (A f) w'') →
      if Region.wanted o (yielded ops (A f).tmps) = true then Oper.wp P o (A f) w' K Q else K ((A f).put o.dst undef) w')
    (hs : StoresS P ops Q w dp R A l) : StoresS P ops Q w dp R A ((s, k) :: l) := StoresT.cons ho h hs
def flowsSB (ops : Array Oper) (sl : List (Nat × Tmp)) (rs : List (List Nat)) (st : List (Nat × Nat)) (dp : List (List Nat)) : Bool :=
  flowSB ops (sl.map (·.1)) rs st dp && sl.all (fun x => dOf ops x.1 == some x.2)
def svF (sv : List (Nat × Nat)) (i : Nat) : Nat := ((sv.find? (fun x => x.1 == i)).map (·.2)).getD i
def svB (sl : List (Nat × Tmp)) (st : List (Nat × Nat)) (dp : List (List Nat)) (sv : List (Nat × Nat)) : Bool := sl.all (fun x => svF sv x.1 == x.1) && st.all (fun x => svF sv x.1 == x.1 || (x.2 :: dp.getD x.1 []).contains (svF sv x.1))
end
end Go.Proofs.YtmadgdafgkleiaaGreatDoor

