/-
  WALKS: the document's own answers of layer 1: wide, Next, Good.
  WALKS: the document's own answers of layer 1: Good, Valid.
  WALKS: the document's Valid.
-/
import Derived.Test.YtnlkokgekjlmmaaGreatDoorRun
import Derived.BigQuiet
import Derived.Deep.QuietTactic
import Derived.WalkSmall
namespace Go.Proofs.YtnlkokgekjlmmaaGreatDoor
open Go.RowKit
def rwide (c : Int) : Int := if c < 128 then 1 else if 194 ≤ c ∧ c ≤ 223 then 2 else if 224 ≤ c ∧ c ≤ 239 then 3 else if 240 ≤ c ∧ c ≤ 244 then 4 else 0
def racc (s : ByteArray) (p : Nat) (v0 : Int) : Nat → Int
  | 0 => v0
  | k + 1 => 64 * racc s p v0 k + (byt s (p + (k + 1)) : Int) - 128
def conts (s : ByteArray) (p k : Nat) : Prop := ∀ j, 1 ≤ j → j ≤ k → 128 ≤ byt s (p + j) ∧ byt s (p + j) ≤ 191
theorem nxt_in (s : ByteArray) (p : Nat) (h : p < s.size) : nxt s (p : Int) = (((Utf8.decode s p).1 : Int), ((Utf8.decode s p).2 : Int)) := by
  unfold nxt; rw [if_neg (by omega)]; rfl
end Go.Proofs.YtnlkokgekjlmmaaGreatDoor
