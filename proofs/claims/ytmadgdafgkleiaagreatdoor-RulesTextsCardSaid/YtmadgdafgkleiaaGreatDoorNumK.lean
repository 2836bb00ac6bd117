/-
  WALKS: number.Right.
  WALKS: number.Parse.
  PLAIN MATHEMATICS: the document's parts of a literal and its Parse are those of the program.
  PLAIN MATHEMATICS: the document's Parse answers what the program's answers.
  WALKS: number.sign, rank, size, Compare.
  WALKS: the document's digits.
  WALKS: the document's own answers of layer 2: digits, nought, Right, size, Compare.
  WALKS: the document's own size and Compare of layer 2.
  PLAIN MATHEMATICS: the document's Compare of two right numbers is the program's.
  PLAIN MATHEMATICS: Compare of right numbers is the order of what they are, times 10 ^ N; so it is an order.
  PLAIN MATHEMATICS: an int as a number: it is right, and its order is that of ints.
  PLAIN MATHEMATICS: a number as an int; what strconv.ParseInt answers of digits; Parse of an int's text.
  WALKS: number.Text, number.Of, over what Itoa answers.
  PLAIN MATHEMATICS: a right number's text is parsed as that number; an int's number is that int.
-/
import Derived.Test.YtmadgdafgkleiaaGreatDoorNumSp
import Derived.Deep.RegionWith
import Derived.Deep.RegionHeld3
import Derived.Lib.ParseIntB
import Derived.Lib.Repeat
import Derived.Lib.AppendIntMem
namespace Go.Proofs.YtmadgdafgkleiaaGreatDoor
open Go.RowKit
def Dec.bad (D : Bs) : Prop := D.length < 1 ∨ 1000 < D.length ∨ D.all isDig = false
instance instDecNumBad (D : Bs) : Decidable (Dec.bad D) := by unfold Dec.bad; infer_instance
def Dec.nought0 (D : Bs) : Prop := D.head? = some 48 ∨ D.getLast? = some 48
instance instDecNumNought (D : Bs) : Decidable (Dec.nought0 D) := by unfold Dec.nought0; infer_instance
def Dec.right (d : Dec) : Bool :=
  if d = .zero then true else if Dec.bad d.digits then false else if Dec.nought0 d.digits then false else decide (-1000000 ≤ d.exp ∧ d.exp ≤ 1000000)
def parseM (l : Bs) : Dec × Int :=
  match splitM l with
  | none => (.zero, 2)
  | some p =>
    if 1000 < p.whole.length + p.frac.length then (.zero, 3)
    else if 9 < (stripL p.power).length then (.zero, 4)
    else if (numM p.neg p.whole p.frac p.down (stripL p.power)).right = true then (numM p.neg p.whole p.frac p.down (stripL p.power), 0) else (.zero, 4)
def ParsePost (R : Dec × Int) (w : World) (e : Ending) (w' : World) : Prop := e = .returned (.tuple #[R.1.val, .int .i64 R.2]) ∧ Below w.heap.size w w'
def notE (c : UInt8) : Bool := !(c == 101 || c == 69)
def notPt (c : UInt8) : Bool := !(c == 46)
def digs (l : Bs) : Bool := decide (l ≠ [] ∧ l.all isDig = true)
def rexp : Bs → Bool × Bs
  | [] => (false, [48])
  | _ :: r => if (r.head? == some 45) = true then (true, r.tail) else (false, if (r.head? == some 43) = true then r.tail else r)
def rrest : Bs → Bs
  | [] => [48]
  | _ :: r => r
def rfrac : Bs → Bs
  | [] => []
  | _ :: r => r
structure RParts where
  neg : Bool
  whole : Bs
  frac : Bs
  down : Bool
  exp : Bs
  ok : Bool
def wholeOk (w : Bs) : Bool := decide (w = [48] ∨ w.head? ≠ some 48)
def rpartsW (neg : Bool) (m : Bs) : RParts :=
  let mant := m.takeWhile notE
  let tl := m.dropWhile notE
  let whole := mant.takeWhile notPt
  let pt := mant.dropWhile notPt
  ⟨neg, whole, rfrac pt, (rexp tl).1, (rexp tl).2, digs whole && digs (rrest pt) && digs (rexp tl).2 && wholeOk whole⟩
def rpartsM (l : Bs) : RParts := if (l.head? == some 45) = true then rpartsW true l.tail else rpartsW false l
def SamePow (x pw : Bs) : Prop := pw = x ∨ (x = [48] ∧ pw = [])
def Fits (r : RParts) (o : Option Parts) : Prop :=
  (r.ok = false ∧ o = none) ∨ (r.ok = true ∧ ∃ pw, o = some ⟨r.neg, r.whole, r.frac, r.down, pw⟩ ∧ SamePow r.exp pw)
def stripZ : Bs → Bs
  | a :: b :: l => if a = 48 then stripZ (b :: l) else a :: b :: l
  | l => l
def rnum (neg : Bool) (down : Bool) (x frac d : Bs) : Dec × Int :=
  let s := stripR d
  let e := (if down then - numOf x else numOf x) - frac.length + d.length - s.length
  if d = [] then (.zero, 0) else if e < -1000000 ∨ 1000000 < e then (.zero, 4) else (⟨neg, s, e⟩, 0)
def rparseM (l : Bs) : Dec × Int :=
  let p := rpartsM l
  if p.ok = false then (.zero, 2) else if 1000 < p.whole.length + p.frac.length then (.zero, 3)
  else if 9 < (stripZ p.exp).length then (.zero, 4) else rnum p.neg p.down (stripZ p.exp) p.frac (stripL (p.whole ++ p.frac))
def Dec.sign (d : Dec) : Int := if d = .zero then 0 else if d.neg = true then -1 else 1
def sizeM (a b : Dec) : Int :=
  if (a.digits.length : Int) + a.exp < b.digits.length + b.exp then -1
  else if (b.digits.length : Int) + b.exp < a.digits.length + a.exp then 1
  else Lib.compareBytes a.digits b.digits
def rankM (b : Bool) : Int := if b then 1 else 0
def compareM (a b : Dec) : Int :=
  if (a.right && b.right) = true then
    if a.sign = b.sign then a.sign * sizeM a b else if a.sign < b.sign then -1 else 1
  else rankM a.right - rankM b.right
def rcmp (a b : Bs) : Nat → Nat → Int
  | 0, _ => 0
  | f + 1, i =>
    if i < a.length ∨ i < b.length then
      if (a[i]?.getD 48).toNat < (b[i]?.getD 48).toNat then -1
      else if (b[i]?.getD 48).toNat < (a[i]?.getD 48).toNat then 1
      else rcmp a b f (i + 1)
    else 0
def rsizeM (a b : Dec) : Int :=
  if a.digits = [] ∨ b.digits = [] then (min a.digits.length 1 : Nat) - (min b.digits.length 1 : Nat)
  else if (a.digits.length : Int) + a.exp = b.digits.length + b.exp then rcmp a.digits b.digits (a.digits.length + b.digits.length + 1) 0
  else if (a.digits.length : Int) + a.exp < b.digits.length + b.exp then -1 else 1
def rcompareM (a b : Dec) : Int :=
  if (a.right && b.right) = true then
    if a.neg = b.neg then (if a.neg = true then rsizeM b a else rsizeM a b) else if a.neg = true then -1 else 1
  else if a.right = true then 1 else if b.right = true then -1 else 0
def Dec.mag (N : Nat) (d : Dec) : Int := numOf d.digits * 10 ^ (d.exp + N).toNat
def Dec.at_ (N : Nat) (d : Dec) : Int := if d.neg = true then - d.mag N else d.mag N
def ofM (n : Int) : Dec := numM (decide (n < 0)) (Lib.decDigits n.natAbs) [] false []
def intV (neg : Bool) (v : Int) : Int × Bool :=
  if neg = true then (if v ≤ 9223372036854775808 then (-v, true) else (0, false)) else (if v ≤ 9223372036854775807 then (v, true) else (0, false))
def intM (d : Dec) : Int × Bool :=
  if d.right = true ∧ 0 ≤ d.exp ∧ d.digits.length + d.exp ≤ 19 then intV d.neg (numOf (d.digits ++ List.replicate d.exp.toNat 48)) else (0, false)
def textM (d : Dec) : Bs :=
  if d.right = true then
    if d = .zero then [48] else (if d.neg = true then [45] else []) ++ d.digits ++ (if d.exp ≠ 0 then 101 :: Lib.itoa d.exp else [])
  else []
def OfPost (R : Dec) (w : World) (e : Ending) (w' : World) : Prop := e = .returned R.val ∧ Below w.heap.size w w'
end Go.Proofs.YtmadgdafgkleiaaGreatDoor

