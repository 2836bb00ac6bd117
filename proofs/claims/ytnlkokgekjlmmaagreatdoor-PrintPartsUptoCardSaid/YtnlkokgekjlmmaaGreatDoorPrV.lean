/-
  PLAIN MATHEMATICS: a text in lines without its blanks is the one in a line; how many lines it has (PrintLines).
-/
import Derived.Test.YtnlkokgekjlmmaaGreatDoorPrU
namespace Go.Proofs.YtnlkokgekjlmmaaGreatDoor
open Go.RowKit

/-- a text without blanks and line feeds outside of strings -/
def bareM : Bool → Bs → Bs
  | _, [] => []
  | b, [c] => if ((if c = 34 then !b else b) || (c != 32 && c != 10)) = true then [c] else []
  | b, c :: d :: l => if b = true ∧ c = 92 then c :: d :: bareM b l else (if ((if c = 34 then !b else b) || (c != 32 && c != 10)) = true then [c] else []) ++ bareM (if c = 34 then !b else b) (d :: l)
/-- two rows, held together -/
inductive All2 (p : Bs → Bs → Prop) : List Bs → List Bs → Prop
  | nil : All2 p [] []
  | cons {x y : Bs} {l₁ l₂ : List Bs} : p x y → All2 p l₁ l₂ → All2 p (x :: l₁) (y :: l₂)
/-- two texts of one thing, with blanks and without -/
def Bare (x y : Bs) : Prop := ∀ r, bareM false (x ++ r) = y ++ bareM false r
theorem prB_lev (n m : Nat) : ∀ v : Vl, ∀ lev lev' : Nat, prB false n lev v = prB false m lev' v := Vl.ind (P := fun v => ∀ lev lev' : Nat, prB false n lev v = prB false m lev' v) (fun k t ks is ih lev lev' => by
  have e : is.map (prB false n (lev + 1)) = is.map (prB false m (lev' + 1)) := List.map_congr_left (fun x hx => ih x hx (lev + 1) (lev' + 1))
  rw [prB_mk, prB_mk, e]
  rfl)
/-! ### how many lines -/
end Go.Proofs.YtnlkokgekjlmmaaGreatDoor
