/-
  WALKS: the document's parts of a literal.
  WALKS: the document's Parse.
  WALK: the document's Decimal.
  WALKS: the document's Text and Of.
  WALK: the small cases of layer 2.
  WALKS: the document's Compare of layer 2, and the law NumberCompares.
  WALKS: number.Int.
  WALKS: the document's Int.
-/
import Derived.Test.YtmadgdafgkleiaaGreatDoorNumK
import Derived.Deep.LoopGhost
import Derived.Lib.ConvBytes
import Derived.Lib.AtoiErrMem
import Derived.Deep.CutRange
import Derived.IntWalk
import Derived.Lib.ItoaLen
import Derived.Deep.RegionHeld3
namespace Go.Proofs.YtmadgdafgkleiaaGreatDoor
open Go.RowKit
def RPartsPost (r : RParts) (w : World) (e : Ending) (w' : World) : Prop := e = .returned (.tuple #[.bool r.neg, .string (st r.whole), .string (st r.frac), .bool r.down, .string (st r.exp), .bool r.ok]) ∧ w' = w
def zeroAhead : Bs → Bool
  | c :: _ :: _ => (c.toNat : Int) == 48
  | _ => false
def noughtAhead : Bs → Bool
  | c :: _ => (c.toNat : Int) == 48
  | _ => false
def PPost (r : Dec × Int) (w : World) (e : Ending) (w' : World) : Prop := e = .returned (.tuple #[r.1.val, .int .i64 r.2]) ∧ Below w.heap.size w w'
def DcmlPost (s : ByteArray) (w : World) (e : Ending) (w' : World) : Prop := e = .returned (.string s) ∧ ∃ m, w' = w.drewN m
def TrioCells (g h k : Nat) (W : World) : Prop :=
  W.cell? ⟨g, 0, none⟩ = some (.bool false) ∧ W.cell? ⟨g, 1, none⟩ = some (.string (st [49, 50, 53])) ∧ W.cell? ⟨g, 2, none⟩ = some (.int .i64 0) ∧
  W.cell? ⟨h, 0, none⟩ = some (.bool false) ∧ W.cell? ⟨h, 1, none⟩ = some (.string (st [])) ∧ W.cell? ⟨h, 2, none⟩ = some (.int .i64 0) ∧
  W.cell? ⟨k, 0, none⟩ = some (.bool false) ∧ W.cell? ⟨k, 1, none⟩ = some (.string (st [49])) ∧ W.cell? ⟨k, 2, none⟩ = some (.int .i64 2)
def IntPost (r : Int × Bool) (w : World) (e : Ending) (w' : World) : Prop := e = .returned (.tuple #[.int .i64 r.1, .bool r.2]) ∧ Below w.heap.size w w'
theorem IntPost.mk {r : Int × Bool} {a : Int} {b : Bool} {w w' : World} (h : r = (a, b)) (hb : Below w.heap.size w w') : IntPost r w (.returned (.tuple #[.int .i64 a, .bool b])) w' := ⟨by rw [h], hb⟩
end Go.Proofs.YtmadgdafgkleiaaGreatDoor

