/-
  PLAIN MATHEMATICS: the tokens of a text of JSON.
  PLAIN MATHEMATICS: a token that stands elsewhere is that token.
  PLAIN MATHEMATICS: rows of tokens: they are the text, each is itself alone, and of two texts with a comma between.
  WALKS: lex.sign, lex.word, lex.run.
  WALKS: lex.next.
  WALKS: lex.All, and the iterator that it hands back.
  WALKS: lex.Tokens.
  WALK: the small cases of layer 4.
  WALKS: lex.Text; the law LexAlone.
-/
import Derived.Test.YtmadgdafgkleiaaGreatDoorUna
import Derived.Test.YtmadgdafgkleiaaGreatDoorBas
import Derived.Test.YtmadgdafgkleiaaGreatDoorNumK
import Derived.Test.YtmadgdafgkleiaaGreatDoorShelf
import Derived.Test.YtmadgdafgkleiaaGreatDoorUnv
import Derived.RangeFuncNested
import Derived.RangeFuncBound
import Derived.RangeFuncCalls
import Derived.RangeFuncLeaves
import Derived.Shelf.Abstract
import Derived.Shelf.RegionOpen
import Derived.OwnWalkIn
import Derived.TacticsInMore
import Derived.LoopNIn
import Derived.LoopIn
import Derived.Maps.AppendAt
import Derived.BigQuiet
import Derived.Deep.QuietTactic
namespace Go.Proofs.YtmadgdafgkleiaaGreatDoor
open Go.RowKit
def isBlank (c : Nat) : Bool := c == 32 || c == 9 || c == 10 || c == 13
def isNum (c : Nat) : Bool := c == 45 || c == 43 || c == 46 || (decide (48 ≤ c) && decide (c ≤ 57)) || c == 101 || c == 69
def isLet (c : Nat) : Bool := decide (97 ≤ c) && decide (c ≤ 122)
def runM (s : ByteArray) (q : Nat → Bool) : Nat → Nat → Nat
  | 0, p => p
  | f + 1, p => if p < s.size ∧ q (byt s p) = true then runM s q f (p + 1) else p
def runTo (s : ByteArray) (q : Nat → Bool) (p : Nat) : Nat := runM s q (s.size - p) p
def signM (c : Nat) : Nat := if c = 123 then 2 else if c = 125 then 3 else if c = 91 then 4 else if c = 93 then 5 else if c = 44 then 6 else if c = 58 then 7 else 0
def wordM (l : Bs) : Nat := if l = [116, 114, 117, 101] then 10 else if l = [102, 97, 108, 115, 101] then 11 else if l = [110, 117, 108, 108] then 12 else 0
def sub (s : ByteArray) (a b : Nat) : Bs := (s.extract a b).data.toList
def oneM (s : ByteArray) (p : Nat) : Nat × Nat × Int :=
  let c := byt s p
  if signM c ≠ 0 then (signM c, p + 1, 0)
  else if isBlank c = true then (1, runTo s isBlank p, 0)
  else if c = 34 then (8, (scanM s p).1, (scanM s p).2.1)
  else if c = 45 ∨ 48 ≤ c ∧ c ≤ 57 then
    (if (parseM (sub s p (runTo s isNum p))).2 ≠ 0 then (0, p, (parseM (sub s p (runTo s isNum p))).2) else (9, runTo s isNum p, 0))
  else if wordM (sub s p (runTo s isLet p)) ≠ 0 then (wordM (sub s p (runTo s isLet p)), runTo s isLet p, 0) else (0, p, 2)
def toksGo (s : ByteArray) : Nat → Nat → List (Nat × Nat × Nat) → List (Nat × Nat × Nat) × Nat × Int
  | 0, p, acc => (acc, p, 0)
  | f + 1, p, acc =>
    if p < s.size then
      (if (oneM s p).2.2 ≠ 0 then (acc, (oneM s p).2.1, (oneM s p).2.2) else toksGo s f (oneM s p).2.1 (acc ++ [((oneM s p).1, p, (oneM s p).2.1)]))
    else (acc, p, 0)
def toksM (s : ByteArray) : List (Nat × Nat × Nat) × Nat × Int := toksGo s s.size 0 []
abbrev Tok := Nat × Nat × Nat
def toksL (s : ByteArray) : Nat → Nat → List Tok × Nat × Int
  | 0, p => ([], p, 0)
  | f + 1, p =>
    if p < s.size then
      (if (oneM s p).2.2 ≠ 0 then ([], (oneM s p).2.1, (oneM s p).2.2) else (((oneM s p).1, p, (oneM s p).2.1) :: (toksL s f (oneM s p).2.1).1, (toksL s f (oneM s p).2.1).2))
    else ([], p, 0)
def tokensM (s : ByteArray) : List Tok × Nat × Int :=
  if 65536 < s.size then ([], 0, 3) else if (toksM s).2.2 ≠ 0 then ([], (toksM s).2.1, (toksM s).2.2) else ((toksM s).1, s.size, 0)
def Chain : List Tok → Nat → Nat → Prop
  | [], a, b => a = b
  | x :: l, a, b => x.2.1 = a ∧ a < x.2.2 ∧ x.2.2 ≤ b ∧ 1 ≤ x.1 ∧ x.1 ≤ 12 ∧ Chain l x.2.2 b
theorem Chain.le : ∀ {l : List Tok} {a b : Nat}, Chain l a b → a ≤ b
  | [], _, _, h => Nat.le_of_eq h
  | _ :: _, _, _, h => by have := Chain.le h.2.2.2.2.2; have := h.2.1; omega
def NB (l : List Tok) : Prop := ∀ i (h : i + 1 < l.length), ¬ ((l[i]'(by omega)).1 = 1 ∧ (l[i + 1]'h).1 = 1)
section
variable {b t : ByteArray} {n : Nat} (hz : t.size = n + b.size) (hx : ∀ p, p ≤ b.size → b.extract p b.size = t.extract (n + p) t.size)
include hz hx
def shiftT (n : Nat) (x : Tok) : Tok := (x.1, n + x.2.1, n + x.2.2)
end
def SetIs (S : ByteArray) (q : Nat → Bool) : Prop := ∀ c : Nat, c < 256 → (decide (0 ≤ Lib.indexByte S.data.toList ((c : Int)).toNat.toUInt8) = q c)
abbrev setBlank : ByteArray := ⟨#[32, 9, 10, 13]⟩
abbrev setNum : ByteArray := ⟨#[45, 43, 46, 48, 49, 50, 51, 52, 53, 54, 55, 56, 57, 101, 69]⟩
abbrev setLet : ByteArray := ⟨#[97, 98, 99, 100, 101, 102, 103, 104, 105, 106, 107, 108, 109, 110, 111, 112, 113, 114, 115, 116, 117, 118, 119, 120, 121, 122]⟩
end Go.Proofs.YtmadgdafgkleiaaGreatDoor

namespace Go.Proofs.YtmadgdafgkleiaaGreatDoor
open Go.RowKit
def OnePost (o : Nat × Nat × Int) (w : World) (e : Ending) (w' : World) : Prop := e = .returned (.tuple #[.int .i64 (o.1 : Int), .int .i64 (o.2.1 : Int), .int .i64 o.2.2]) ∧ Below w.heap.size w w'
theorem OnePost.mk {o : Nat × Nat × Int} {k t : Nat} {a b c e : Int} {w w' : World} (h : o = (k, t, e)) (ha : a = (k : Int)) (hb : b = (t : Int)) (hc : c = e) (hw : Below w.heap.size w w') : OnePost o w (.returned (.tuple #[.int .i64 a, .int .i64 b, .int .i64 c])) w' := by
  subst h; subst ha; subst hb; subst hc; exact ⟨rfl, hw⟩
end Go.Proofs.YtmadgdafgkleiaaGreatDoor
namespace Go.Proofs.YtmadgdafgkleiaaGreatDoor
open Go.RowKit Go.Shelf
attribute [local go_sem] Oper.semAt_some
abbrev Item := Nat × Nat × Nat × Int
abbrev tokV (k a b : Nat) : Value := .agg #[.int .i64 (k : Int), .int .i64 (a : Int), .int .i64 (b : Int)]
abbrev itemV (x : Item) : Array Value := #[tokV x.1 x.2.1 x.2.2.1, .int .i64 x.2.2.2]
def itemsL (s : ByteArray) : Nat → Nat → List Item
  | 0, _ => []
  | f + 1, p =>
    if p < s.size then
      (if (oneM s p).2.2 ≠ 0 then [(0, (oneM s p).2.1, (oneM s p).2.1, (oneM s p).2.2)] else ((oneM s p).1, p, (oneM s p).2.1, 0) :: itemsL s f (oneM s p).2.1)
    else []
def items (s : ByteArray) : List Item := if 65536 < s.size then [(0, 0, 0, 3)] else itemsL s s.size 0
def KpB (n₀ Bn : Nat) (A B : World) : Prop := Below n₀ A B ∧ B.heap[Bn]? = A.heap[Bn]?
end Go.Proofs.YtmadgdafgkleiaaGreatDoor
namespace Go.Proofs.YtmadgdafgkleiaaGreatDoor
open Go.RowKit Go.Shelf
attribute [local go_sem] Oper.semAt_some
def tokCells (l : List Tok) : List Value := l.flatMap fun x => [.int .i64 (x.1 : Int), .int .i64 (x.2.1 : Int), .int .i64 (x.2.2 : Int)]
def tokOf (x : Item) : Tok := (x.1, x.2.1, x.2.2.1)
def textT (s : ByteArray) (a b : Int) : ByteArray × Bool := if a < 0 ∨ b < a ∨ (s.size : Int) < b then (⟨#[]⟩, false) else (s.extract a.toNat b.toNat, true)
def TextPost (r : ByteArray × Bool) (w : World) (e : Ending) (w' : World) : Prop := e = .returned (.tuple #[.string r.1, .bool r.2]) ∧ Below w.heap.size w w'
end Go.Proofs.YtmadgdafgkleiaaGreatDoor

