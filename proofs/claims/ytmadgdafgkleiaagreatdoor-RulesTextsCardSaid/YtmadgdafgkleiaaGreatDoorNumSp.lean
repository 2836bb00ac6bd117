/-
  WALKS: number.digits, the parts of a literal.
  WALKS: (literal).number: what a literal is.
  PLAIN MATHEMATICS: the order of bytes of two texts of digits is the order of the numbers that they are behind a point.
  strconv.Itoa, as a premise on a world.
  THE PREMISE ON strconv.Itoa, of any int.
  WALKS: number.split: the parts of a literal.
  PLAIN MATHEMATICS: the text of an int is a literal without fraction and exponent; its digits are the int's.
-/
import Derived.Test.YtmadgdafgkleiaaGreatDoorChecked
import Derived.Test.YtmadgdafgkleiaaGreatDoorShelf
import Derived.Test.YtmadgdafgkleiaaGreatDoorBas
import Derived.Deep.DeepCutAuto
import Derived.Lib.ItoaLen
import Derived.Deep.RegionWith
namespace Go.Proofs.YtmadgdafgkleiaaGreatDoor
open Go.RowKit
structure Dec where
  neg : Bool
  digits : Bs
  exp : Int
  deriving DecidableEq
def Dec.zero : Dec := ⟨false, [], 0⟩
def Dec.val (d : Dec) : Value := .agg #[.bool d.neg, .string (st d.digits), .int .i64 d.exp]
def numOf (l : Bs) : Int := l.foldl (fun n c => n * 10 + ((c.toNat : Int) - 48)) 0
def stripL (l : Bs) : Bs := Lib.trimLeftB l 48
def stripR (l : Bs) : Bs := Lib.trimRightB l 48
def numM (neg : Bool) (whole frac : Bs) (down : Bool) (power : Bs) : Dec :=
  let all := stripL (whole ++ frac)
  let short := stripR all
  if short = [] then .zero else ⟨neg, short, (if down then - numOf power else numOf power) - frac.length + all.length - short.length⟩
def DecPost (R : Dec) (w : World) (e : Ending) (w' : World) : Prop := e = .returned R.val ∧ Below w.heap.size w w'
def expOf (down : Bool) (power : Bs) : Int := if down then - numOf power else numOf power
def sg (x : Int) : Int := if x < 0 then -1 else if 0 < x then 1 else 0
def pad (a : Bs) (M : Nat) : Int := numOf a * 10 ^ (M - a.length)
end Go.Proofs.YtmadgdafgkleiaaGreatDoor

namespace Go.Proofs.YtmadgdafgkleiaaGreatDoor
open Go.RowKit
structure Parts where
  neg : Bool
  whole : Bs
  frac : Bs
  down : Bool
  power : Bs
def Parts.val (l : Parts) : Value := .agg #[.bool l.neg, .string (st l.whole), .string (st l.frac), .bool l.down, .string (st l.power)]
def splitFin (p : Parts) (d : Bool) (r : Bs) : Option Parts := if r ≠ [] ∧ r.all isDig then some { p with down := d, power := r } else none
def splitExp (p : Parts) (l : Bs) : Option Parts :=
  if l.head? == some 45 then splitFin p true l.tail else splitFin p false (if l.head? == some 43 then l.tail else l)
def splitTail (p : Parts) (l : Bs) : Option Parts :=
  match l with
  | [] => some p
  | c :: r => if c = 101 ∨ c = 69 then splitExp p r else none
def splitFrac (p : Parts) (l : Bs) : Option Parts :=
  match l with
  | 46 :: r => if r.takeWhile isDig = [] then none else splitTail { p with frac := r.takeWhile isDig } (r.dropWhile isDig)
  | l => splitTail p l
def splitWhole (neg : Bool) (l : Bs) : Option Parts :=
  let w := l.takeWhile isDig
  if w = [] ∨ (1 < w.length ∧ w.head? = some 48) then none else splitFrac ⟨neg, w, [], false, []⟩ (l.dropWhile isDig)
def splitM (l : Bs) : Option Parts := if l.head? == some 45 then splitWhole true l.tail else splitWhole false l
def SplitPost (R : Option Parts) (w : World) (e : Ending) (w' : World) : Prop :=
  (∃ v, e = .returned v ∧ ((∃ p, R = some p ∧ v = .tuple #[p.val, .bool true]) ∨ (R = none ∧ ∃ p : Parts, v = .tuple #[p.val, .bool false]))) ∧ Below w.heap.size w w'
theorem SplitPost.no {R : Option Parts} {w w' : World} {x : Value} (p : Parts) (h : R = none) (hx : x = p.val) (hb : Below w.heap.size w w') : SplitPost R w (.returned (.tuple #[x, .bool false])) w' := ⟨⟨_, rfl, .inr ⟨h, p, by rw [hx]⟩⟩, hb⟩
theorem SplitPost.yes {R : Option Parts} {w w' : World} {p : Parts} {x : Value} (h : R = some p) (hx : x = p.val) (hb : Below w.heap.size w w') : SplitPost R w (.returned (.tuple #[x, .bool true])) w' := ⟨⟨_, rfl, .inl ⟨p, h, by rw [hx]⟩⟩, hb⟩
end Go.Proofs.YtmadgdafgkleiaaGreatDoor

