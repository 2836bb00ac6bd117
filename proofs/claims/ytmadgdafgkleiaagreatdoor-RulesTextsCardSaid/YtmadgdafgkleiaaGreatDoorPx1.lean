/-
  WALK: value.objects.
  WALK: value.compare.
  WALKS: value.Compare, Same.
  WALKS: value.Sorted, Copy: remake in two orders.
  WALKS: value.Sorted, Copy, Get, Of, Num.
  WALKS: value.Of, Num; the law's Row, Map.
  WALK: value.Get.
  WALK: pointer.Index: a step as a number.
  WALK: pointer.below: the number of the item to which a step leads.
  WALK: the iterator of pointer.nodes: from a tree on down along a path.
  WALKS: pointer.nodes, pointer.lead.
  WALK: pointer.Find.
-/
import Derived.Test.YtmadgdafgkleiaaGreatDoorVtNT
import Derived.Test.YtmadgdafgkleiaaGreatDoorNumKW
import Derived.Lib.Atoi
import Derived.BigQuiet
import Derived.Test.YtmadgdafgkleiaaGreatDoorBas
import Derived.Test.YtmadgdafgkleiaaGreatDoorRua
namespace Go.Proofs.YtmadgdafgkleiaaGreatDoor
open Go.RowKit
structure Fine (x : Vt) (w : World) : Prop where
  ok : x.Ok w
  lim : x.m.All Lim
  sz : x.m.size ≤ 1000000
theorem Fine.grow {x : Vt} {w w' : World} (h : Fine x w) (hb : Below w.heap.size w w') : Fine x w' := ⟨h.ok.grow hb, h.lim, h.sz⟩
def Rem1 (v : Vl) : Prop := Good v ∧ v.size ≤ 1000000
theorem Rem1.items {k : Int} {t : Bs} {ks : List Bs} {is : List Vl} (h : Rem1 (.mk k t ks is)) : ∀ x ∈ is, Rem1 x := fun x hx => by
  refine ⟨h.1.items x hx, ?_⟩
  have h1 := h.2
  simp only [Vl.size] at h1
  have := Vl.sizes_le x hx
  omega
def ordR (v : Vl) : List Nat := List.range v.is.length
def zeroL : Vl := .mk 0 [] [] []
def zeroT : Vt := .mk 0 [] ⟨none, 0, []⟩ none 0 []
def leafT (k : Int) (t : Bs) : Vt := .mk k t ⟨none, 0, []⟩ none 0 []
def LeafPost (k : Int) (t : Bs) (w : World) (e : Ending) (w' : World) : Prop := e = .returned (leafT k t).v ∧ Below w.heap.size w w'
def NodePost (v : Value) (w : World) (e : Ending) (w' : World) : Prop := e = .returned v ∧ Below w.heap.size w w'
def ixOf : List Bs → Bs → Option Nat
  | [], _ => none
  | x :: l, k => if x = k then some 0 else (ixOf l k).map (· + 1)
def ixI (l : List Bs) (k : Bs) : Int := match ixOf l k with
  | some i => (i : Int)
  | none => -1
def getM (v : Vl) (key : Bs) : Option Vl := if openM v = true ∧ v.k = 6 then (match ixOf v.ks key with
  | some i => v.is[i]?
  | none => none) else none
end Go.Proofs.YtmadgdafgkleiaaGreatDoor

namespace Go.Proofs.YtmadgdafgkleiaaGreatDoor
open Go.RowKit
def digV (s : ByteArray) (pos : Nat) : Prop := 48 ≤ byt s pos ∧ byt s pos ≤ 57
def indexM (l : Bs) : Option Nat := if l = [] ∨ 9 < l.length ∨ (l.head? = some 48 ∧ l ≠ [48]) then none else Lib.decNat l
def IdxPost (l : Bs) (w : World) (e : Ending) (w' : World) : Prop := e = .returned (.tuple #[.int .i64 (((indexM l).getD 0 : Nat) : Int), .bool (indexM l).isSome]) ∧ Below w.heap.size w w'
def belowM (v : Vl) (s : Bs) : Int × Bool :=
  if v.k = 6 then (ixI v.ks s, decide (0 ≤ ixI v.ks s))
  else if v.k = 5 then ((((indexM s).getD 0 : Nat) : Int), (indexM s).isSome && decide ((indexM s).getD 0 < v.is.length))
  else (0, false)
def BlwPost (r : Int × Bool) (w : World) (e : Ending) (w' : World) : Prop := e = .returned (.tuple #[.int .i64 r.1, .bool r.2]) ∧ Below w.heap.size w w'
end Go.Proofs.YtmadgdafgkleiaaGreatDoor
namespace Go.Proofs.YtmadgdafgkleiaaGreatDoor
open Go.RowKit Go.Shelf
attribute [local go_sem] Oper.semAt_some
def nodesM : List Bs → Nat × Nat × Vt → List (Nat × Nat × Vt)
  | [], y => [y]
  | s :: r, y => y :: (if (belowM y.2.2.m s).2 = true then (match y.2.2.o, y.2.2.is[(belowM y.2.2.m s).1.toNat]? with
    | some a, some z => nodesM r (a.block, a.off + (belowM y.2.2.m s).1.toNat * 4, z)
    | _, _ => []) else [])
def KpN (n₀ b1 b2 : Nat) (A B : World) : Prop := Below n₀ A B ∧ B.heap[b1]? = A.heap[b1]? ∧ B.heap[b2]? = A.heap[b2]?
end Go.Proofs.YtmadgdafgkleiaaGreatDoor
namespace Go.Proofs.YtmadgdafgkleiaaGreatDoor
open Go.RowKit Go.Shelf
attribute [local go_sem] Oper.semAt_some
def lastP (v : Value) (l : List (Nat × Nat × Vt)) : Value := match l.getLast? with
  | some y => .pointer (some ⟨y.1, y.2.1, none⟩)
  | none => v
def LeadPost (LL : List (Nat × Nat × Vt)) (n : Nat) (v : Value) (w : World) (e : Ending) (w' : World) : Prop := e = .returned (.tuple #[lastP v LL, .bool (decide (LL.length = n + 1))]) ∧ Below w.heap.size w w'
def pgetM : List Bs → Vl → Option Vl
  | [], v => some v
  | s :: r, v => if (belowM v s).2 = true then (match v.is[(belowM v s).1.toNat]? with
    | some z => pgetM r z
    | none => none) else none
def pfindM (v : Vl) (path : List Bs) : Option Vl := if pgoodB path = true ∧ openM v = true then pgetM path v else none
end Go.Proofs.YtmadgdafgkleiaaGreatDoor

