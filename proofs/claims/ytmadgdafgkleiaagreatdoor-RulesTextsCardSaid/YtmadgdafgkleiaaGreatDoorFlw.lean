/-
  A REGION THAT DRAWS ITS ORDER, as a flow: each operation but the last ones makes a value of which R tells, out of others' values; one walk an operation, whatever the order.
-/
import Derived.RegionTactic
import Derived.Below
namespace Go.Proofs.YtmadgdafgkleiaaGreatDoor
open Go.RowKit
def dOf (ops : Array Oper) (i : Nat) : Option Tmp := (ops[i]?).bind (·.dst)
def putA (ops : Array Oper) : List Nat → (Nat → Value) → Act → Act
  | [], _, a => a
  | i :: l, f, a => putA ops l f (a.put (dOf ops i) (f i))
def upd (f : Nat → Value) (i : Nat) (v : Value) : Nat → Value := fun j => if j = i then v else f j
def updN (f : Nat → Nat) (i : Nat) (v : Nat) : Nat → Nat := fun j => if j = i then v else f j
def slotsB (ops : Array Oper) : List Nat → Bool
  | [] => true
  | i :: l => (dOf ops i).isSome && l.all (fun j => j != i && dOf ops j != dOf ops i) && slotsB ops l
def clo (ops : Array Oper) : Nat → List Nat → List Nat
  | 0, l => l
  | k + 1, l => l ++ clo ops k (l.flatMap fun i => ((ops[i]?).map (fun o => (o.after.toList.filter (Region.binds .any)).map (·.on))).getD [])
def flowB (ops : Array Oper) (ns : List Nat) (rs : List (List Nat)) : Bool :=
  decide (ns.length ≤ ops.size) && slotsB ops ns && ns.all (fun i => decide (i < ops.size) && (ops[i]?.map (fun o => o.after.all (fun e => !Region.binds .any e || (ns.contains e.on && decide (e.on < i))))).getD false) &&
  ns.all (fun i => (rs.getD i []).contains i && (rs.getD i []).all (fun j => ns.contains j && (rs.getD j []).all (fun m => (rs.getD i []).contains m) &&
    (j == i || (ops[i]?.map (fun o => o.after.any (fun e => Region.binds .any e && (rs.getD e.on []).contains j && ns.contains e.on))).getD false))) &&
  (List.range ops.size).all (fun j => ns.contains j || ns.all (fun i => (clo ops ops.size ((ops[j]?).map (fun o => (o.after.toList.filter (Region.binds .any)).map (·.on)) |>.getD [])).contains i))
structure Later (B : Nat) (w0 : World) (rs : List (List Nat)) (lo hi : Nat → Nat) (i : Nat) (w w' : World) : Prop where
  bel : Below B w0 w'
  size : w.heap.size ≤ w'.heap.size
  block : ∀ b j, j ∈ rs.getD i [] → lo j ≤ b → b < hi j → w'.heap[b]? = w.heap[b]?
section
variable {P : Program} {ops : Array Oper} {Q : Exit → Act → World → Prop}
structure Did (B : Nat) (w0 : World) (ops : Array Oper) (rs : List (List Nat)) (R : Nat → Value → Nat → Nat → World → Prop) (f : Nat → Value) (lo hi : Nat → Nat) (a : Act) (i : Nat) (w : World) (a' : Act) (w' : World) (v : Value) : Prop where
  act : a' = a.put (dOf ops i) v
  bel : Below w.heap.size w w'
  fact : ∀ w'', Below B w0 w'' → w'.heap.size ≤ w''.heap.size → (∀ b, w.heap.size ≤ b → b < w'.heap.size → w''.heap[b]? = w'.heap[b]?) → (∀ j ∈ rs.getD i [], j ≠ i → R j (f j) (lo j) (hi j) w'') → R i v w.heap.size w'.heap.size w''
structure FlowI (B : Nat) (w0 : World) (a0 : Act) (ops : Array Oper) (ns : List Nat) (rs : List (List Nat)) (R : Nat → Value → Nat → Nat → World → Prop) (L : Nat → Bool) (f : Nat → Value) (lo hi : Nat → Nat) (a : Act) (w : World) : Prop where
  act : a = putA ops ns f a0
  bel : Below B w0 w
  only : ∀ i, L i = true → i ∈ ns
  deps : ∀ i o, ops[i]? = some o → L i = true → ∀ e ∈ o.after, Region.binds .any e = true → L e.on = true
  reach : ∀ i, L i = true → ∀ j ∈ rs.getD i [], L j = true
  iv : ∀ i, L i = true → B ≤ lo i ∧ lo i ≤ hi i ∧ hi i ≤ w.heap.size
  ap : ∀ i j, L i = true → L j = true → i ≠ j → hi i ≤ lo j ∨ hi j ≤ lo i
  fact : ∀ i, L i = true → ∀ w', Later B w0 rs lo hi i w w' → R i (f i) (lo i) (hi i) w'
def tailB (ops : Array Oper) : Array Bool → List Nat → Bool
  | L, [] => decide (Region.ready .any ops L = [])
  | L, t :: ts => decide (Region.ready .any ops L = [t]) && tailB ops (L.setIfInBounds t true) ts
def putS : List (Nat × Tmp) → (Nat → Value) → Act → Act
  | [], _, a => a
  | x :: l, f, a => putS l f (a.put (some x.2) (f x.1))
def Steps (P : Program) (ops : Array Oper) (Q : Exit → Act → World → Prop) (w : World) (rs : List (List Nat)) (R : Nat → Value → Nat → Nat → World → Prop) (A : (Nat → Value) → Act) (l : List Nat) : Prop :=
  ∀ i ∈ l, ∀ o, ops[i]? = some o → ∀ (f : Nat → Value) (lo hi : Nat → Nat) (w' : World), Below w.heap.size w w' → (∀ j ∈ rs.getD i [], j ≠ i → R j (f j) (lo j) (hi j) w') →
    ∀ K : Act → World → Prop, (∀ v w'', Below w'.heap.size w' w'' → (∀ W, Below w.heap.size w W → w''.heap.size ≤ W.heap.size → (∀ b, w'.heap.size ≤ b → b < w''.heap.size → W.heap[b]? = w''.heap[b]?) → (∀ j ∈ rs.getD i [], j ≠ i → R j (f j) (lo j) (hi j) W) → R i v w'.heap.size w''.heap.size W) → K ((A f).put o.dst v) w'') →
      if Region.wanted o (yielded ops (A f).tmps) = true then Oper.wp P o (A f) w' K Q else K ((A f).put o.dst undef) w'
theorem Steps.nil {w : World} {rs : List (List Nat)} {R : Nat → Value → Nat → Nat → World → Prop} {A : (Nat → Value) → Act} : Steps P ops Q w rs R A [] := fun i hi => by cases hi
theorem Steps.cons {w : World} {rs : List (List Nat)} {R : Nat → Value → Nat → Nat → World → Prop} {A : (Nat → Value) → Act} {i : Nat} {l : List Nat} {o : Oper} (ho : ops[i]? = some o)
    (h : ∀ (f : Nat → Value) (lo hi : Nat → Nat) (w' : World), Below w.heap.size w w' → (∀ j ∈ rs.getD i [], j ≠ i → R j (f j) (lo j) (hi j) w') →
    ∀ K : Act → World → Prop, (∀ v w'', Below w'.heap.size w' w'' → (∀ W, Below w.heap.size w W → w''.heap.size ≤ W.heap.size → (∀ b, w'.heap.size ≤ b → b < w''.heap.size → W.heap[b]? = w''.heap[b]?) → (∀ j ∈ rs.getD i [], j ≠ i → R j (f j) (lo j) (hi j) W) → R i v w'.heap.size w''.heap.size W) → K ((A f).put o.dst v) w'') →
      if Region.wanted o (yielded ops (A f).tmps) = true then Oper.wp P o (A f) w' K Q else K ((A f).put o.dst undef) w')
    (hs : Steps P ops Q w rs R A l) : Steps P ops Q w rs R A (i :: l) := fun j hj => by
  rcases List.mem_cons.1 hj with rfl | hj
  · intro o' ho'
    obtain rfl := Option.some.inj (ho.symm.trans ho')
    exact h
  · exact hs j hj
def flowsB (ops : Array Oper) (sl : List (Nat × Tmp)) (rs : List (List Nat)) (ts : List Nat) : Bool :=
  flowB ops (sl.map (·.1)) rs && sl.all (fun x => dOf ops x.1 == some x.2) && decide (ts.length + (sl.map (·.1)).length = ops.size) && tailB ops ((Array.range ops.size).map (fun i => (sl.map (·.1)).contains i)) ts
end
end Go.Proofs.YtmadgdafgkleiaaGreatDoor

