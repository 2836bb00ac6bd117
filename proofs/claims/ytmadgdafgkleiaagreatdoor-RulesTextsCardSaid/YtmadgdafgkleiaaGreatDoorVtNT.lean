/-
  PLAIN MATHEMATICS: Compare of right numbers is 0 of equal ones alone; it is an order; of ints that of ints.
  PLAIN MATHEMATICS: which trees are values, and their order.
  PLAIN MATHEMATICS: the items' numbers in the order of their keys.
  WALKS: value.decimal, members, node.
  WALKS: value.fits, Open, Right.
  WALKS: value.fits, Open, Right.
  WALKS: value.byKey; Copy and Sorted.
  WALKS: value.rows, of numbers and of trees.
  WALKS: value.objects and its closures.
  PLAIN MATHEMATICS: sorting keeps what a tree is, is done once, and equal in the order means equal, of sorted ones.
-/
import Derived.Test.YtmadgdafgkleiaaGreatDoorNumK
import Derived.Test.YtmadgdafgkleiaaGreatDoorBas
import Derived.Test.YtmadgdafgkleiaaGreatDoorRun
import Derived.Shelf.SlSortCmp.Insertion
import Derived.Test.YtmadgdafgkleiaaGreatDoorVtRD
import Derived.Test.YtmadgdafgkleiaaGreatDoorNumKW
import Derived.Test.YtmadgdafgkleiaaGreatDoorNumSp
import Derived.Maps.OwnOps
import Derived.Maps.OwnSet
import Derived.Test.YtmadgdafgkleiaaGreatDoorShelf
import Derived.Lib.OwnBridge
import Derived.BigQuiet
namespace Go.Proofs.YtmadgdafgkleiaaGreatDoor
open Go.RowKit
end Go.Proofs.YtmadgdafgkleiaaGreatDoor
namespace Go.Proofs.YtmadgdafgkleiaaGreatDoor
/-! ### which trees are values -/
def decM (t : Bs) : Bool := decide ((parseM t).2 = 0) && decide (textM (parseM t).1 = t)
def holeM (t : Bs) : Bool := decM t && ((intM (parseM t).1).2 && decide (0 ≤ (intM (parseM t).1).1))
def membersM (ks : List Bs) (n : Nat) : Bool := decide (ks.length = n) && (decide (ks.length ≤ 4096) && (ks.all (fun k => (valid (st k)).2) && decide ks.Nodup))
def scalarM (k : Int) (t : Bs) : Bool :=
  if k = 1 then decide (t = [])
  else if k = 2 then decide (t = [116, 114, 117, 101]) || decide (t = [102, 97, 108, 115, 101])
  else if k = 3 then decM t
  else if k = 4 then (valid (st t)).2
  else if k = 7 then holeM t
  else false
def nodeM (v : Vl) : Bool :=
  if v.k = 5 then decide (v.t = []) && decide (v.ks = [])
  else if v.k = 6 then decide (v.t = []) && membersM v.ks v.is.length
  else (decide (v.ks = []) && decide (v.is = [])) && scalarM v.k v.t
def openM (v : Vl) : Bool := decide (v.size ≤ 4096) && (decide (v.depth ≤ 32) && v.allB nodeM)
def rightM (v : Vl) : Bool := decide (v.size ≤ 4096) && (decide (v.depth ≤ 32) && v.allB (fun x => nodeM x && decide (x.k ≠ 7)))
/-! ### their order -/
abbrev cmpB : Bs → Bs → Int := Lib.compareBytes
def numT (t : Bs) : Dec := (parseM t).1
mutual
def cmpV : Vl → Vl → Int
  | .mk k t ks is, w =>
    if k ≠ w.k then (if k < w.k then -1 else 1)
    else if k = 3 then compareM (numT t) (numT w.t)
    else if k = 5 then cmpL is w.is
    else if k = 6 then thenM (lexM cmpB ks w.ks) (cmpL is w.is)
    else cmpB t w.t
def cmpL : List Vl → List Vl → Int
  | [], [] => 0
  | [], _ :: _ => -1
  | _ :: _, [] => 1
  | x :: a, y :: b => if cmpV x y ≠ 0 then cmpV x y else cmpL a b
end
def bodyV (k : Int) (v w : Vl) : Int :=
  if k = 3 then compareM (numT v.t) (numT w.t)
  else if k = 5 then lexM cmpV v.is w.is
  else if k = 6 then thenM (lexM cmpB v.ks w.ks) (lexM cmpV v.is w.is)
  else cmpB v.t w.t
mutual
def sortV : Vl → Vl
  | .mk k t ks is => if k = 6 then .mk k t ((isort cmpB (ks.zip (sortL is))).map (·.1)) ((isort cmpB (ks.zip (sortL is))).map (·.2)) else .mk k t [] (sortL is)
def sortL : List Vl → List Vl
  | [] => []
  | v :: l => sortV v :: sortL l
end
def compM (a b : Vl) : Int :=
  if openM a = true then (if openM b = true then cmpV (sortV a) (sortV b) else 1)
  else (if openM b = true then -1 else 0)
def sameM (a b : Vl) : Bool := openM a && (openM b && decide (cmpV (sortV a) (sortV b) = 0))
end Go.Proofs.YtmadgdafgkleiaaGreatDoor
namespace Go.Proofs.YtmadgdafgkleiaaGreatDoor
structure ByKey (ks : List Bs) (n : Nat) (x : List Nat) : Prop where
  perm : x.Perm (List.range n)
  sorted : x.Pairwise (fun i j => cmpB (keyAt ks i) (keyAt ks j) < 0)
theorem ByKey.lt {ks : List Bs} {n : Nat} {x : List Nat} (h : ByKey ks n x) : ∀ i ∈ x, i < n := fun _i hi => List.mem_range.1 (h.perm.mem_iff.1 hi)
theorem ByKey.len {ks : List Bs} {n : Nat} {x : List Nat} (h : ByKey ks n x) : x.length = n := by rw [h.perm.length_eq, List.length_range]
def cfK (ks : List Bs) (n : Nat) (i j : Fin n) : Int := cmpB (keyAt ks i.val) (keyAt ks j.val)
end Go.Proofs.YtmadgdafgkleiaaGreatDoor

namespace Go.Proofs.YtmadgdafgkleiaaGreatDoor
open Go.RowKit Go.WideMaps Go.Maps
def DecP (t : Bs) (w : World) (e : Ending) (w' : World) : Prop := e = .returned (.tuple #[(numT t).val, .bool (decM t)]) ∧ Below w.heap.size w w'
def MapK (w : World) (b k : Nat) (l : List Bs) : Prop := w.ownsMap Tryz.prog 9 (plainElem (H := Unit) Tryz.prog 3) b k (mapTo l k)
theorem MapK.kept {w w' : World} {b k : Nat} {l : List Bs} {row : Option Nat} (h : MapK w b k l) (hg : w.grownBy w' row) (hne : some b ≠ row) : MapK w' b k l := World.ownsMap.kept h hg hne
theorem MapK.grow {w w' : World} {b k : Nat} {l : List Bs} (h : MapK w b k l) (hb : Below w.heap.size w w') : MapK w' b k l := h.kept (row := none) (grownBy_below hb none) (by simp)
def Lim (v : Vl) : Prop := v.t.length ≤ 1048576 ∧ ∀ k ∈ v.ks, k.length ≤ 1048576
end Go.Proofs.YtmadgdafgkleiaaGreatDoor
namespace Go.Proofs.YtmadgdafgkleiaaGreatDoor
open Go.RowKit Go.Sort Go.Shelf
def ordN (ks : List Bs) (n : Nat) : List Nat := ((List.finRange n).mergeSort (fun x y => !ltOf (cfK ks n) y x)).map Fin.val
def ordK (v : Vl) : List Nat := if v.k = 6 then ordN v.ks v.is.length else List.range v.is.length
def natE {n : Nat} (i : Fin n) : Value := .int .i64 (i.val : Int)
def NatsIn (w : World) (o : Option Addr) (l : List Nat) : Prop := ∀ i (h : i < l.length), ∃ b f, o = some ⟨b, f, none⟩ ∧ w.cell? ⟨b, f + i, none⟩ = some (.int .i64 (l[i] : Int))
theorem NatsIn.grow {w w' : World} {o : Option Addr} {l : List Nat} (h : NatsIn w o l) (hb : Below w.heap.size w w') : NatsIn w' o l := fun i hi => by
  obtain ⟨b, f, h1, h2⟩ := h i hi
  exact ⟨b, f, h1, (hb.cell (p := ⟨b, f + i, none⟩) (cell_blk h2)).trans h2⟩
def ItemsIn (w : World) (o : Option Addr) (l : List Vt) : Prop := ∀ i (h : i < l.length), ∃ b f, o = some ⟨b, f, none⟩ ∧ ItemAt w b (f + i * 4) l[i]
theorem ItemsIn.grow {w w' : World} {o : Option Addr} {l : List Vt} (h : ItemsIn w o l) (hb : Below w.heap.size w w') : ItemsIn w' o l := fun i hi => by
  obtain ⟨b, f, h1, h2⟩ := h i hi
  exact ⟨b, f, h1, h2.grow hb⟩
def cmpS (v w : Vl) : Int := cmpV (sortV v) (sortV w)
def Good (v : Vl) : Prop := v.allB nodeM = true
theorem Good.items {k : Int} {t : Bs} {ks : List Bs} {is : List Vl} (h : Good (.mk k t ks is)) : ∀ x ∈ is, Good x := by
  unfold Good at h
  simp only [Vl.allB, Bool.and_eq_true] at h
  exact Vl.allsB_iff.1 h.2
theorem Good.node {k : Int} {t : Bs} {ks : List Bs} {is : List Vl} (h : Good (.mk k t ks is)) : nodeM (.mk k t ks is) = true := by
  unfold Good at h
  simp only [Vl.allB, Bool.and_eq_true] at h
  exact h.1
end Go.Proofs.YtmadgdafgkleiaaGreatDoor
namespace Go.Proofs.YtmadgdafgkleiaaGreatDoor
end Go.Proofs.YtmadgdafgkleiaaGreatDoor

