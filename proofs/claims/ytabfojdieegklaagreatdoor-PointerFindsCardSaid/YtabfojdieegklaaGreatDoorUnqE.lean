/-
  WALKS: quote.escape.
-/
import Derived.Test.YtabfojdieegklaaGreatDoorUnqU
import Derived.Test.YtabfojdieegklaaGreatDoorUnqP
namespace Go.Proofs.YtabfojdieegklaaGreatDoor
open Go.RowKit

theorem uni_sub (t : ByteArray) (a q : Nat) (ha : a ≤ t.size) : uni (t.extract a t.size) q = uni t (a + q) := by
  unfold uni
  have hsz : (t.extract a t.size).size = t.size - a := by rw [ByteArray.size_extract]; omega
  by_cases h : a + q + 6 ≤ t.size
  · have e : ∀ j, j < 6 → byt (t.extract a t.size) (q + j) = byt t (a + q + j) := fun j hj => by
      rw [byt_sub t a t.size (q + j) (Nat.le_refl _) (by omega)]; congr 1; omega
    have e0 := e 0 (by omega)
    rw [Nat.add_zero, Nat.add_zero] at e0
    rw [hsz, e0, e 1 (by omega), e 2 (by omega), e 3 (by omega), e 4 (by omega), e 5 (by omega)]
    by_cases hc : byt t (a + q) = 92 ∧ byt t (a + q + 1) = 117
    · rw [if_pos ⟨by omega, hc.1, hc.2⟩, if_pos ⟨h, hc.1, hc.2⟩]
    · rw [if_neg (fun hh => hc hh.2), if_neg (fun hh => hc hh.2)]
  · rw [if_neg (fun hh => h (by have := hh.1; omega)), if_neg (fun hh => h hh.1)]

def EscPost (o : Option (Nat × Nat)) (w : World) (e : Ending) (w' : World) : Prop := e = .returned (.tuple #[.int .i32 (((o.getD (0, 0)).1 : Nat) : Int), .int .i64 (((o.getD (0, 0)).2 : Nat) : Int)]) ∧ Below w.heap.size w w'
theorem EscPost.mk {o : Option (Nat × Nat)} {r n : Nat} {a b : Int} {w w' : World} (h : o = some (r, n)) (ha : a = (r : Int)) (hb : b = (n : Int)) (hw : Below w.heap.size w w') : EscPost o w (.returned (.tuple #[.int .i32 a, .int .i64 b])) w' := by
  subst h; subst ha; subst hb; exact ⟨rfl, hw⟩
theorem EscPost.no {o : Option (Nat × Nat)} {w w' : World} (h : o = none) (hw : Below w.heap.size w w') : EscPost o w (.returned (.tuple #[.int .i32 0, .int .i64 0])) w' := by
  subst h; exact ⟨rfl, hw⟩

def esc2 (n : Nat) (o6 : Option Nat) : Option (Nat × Nat) :=
  match o6 with
  | none => none
  | some m => if m < 56320 ∨ 57343 < m then none else some (65536 + (n - 55296) * 1024 + (m - 56320), 12)
def esc1 (o o6 : Option Nat) : Option (Nat × Nat) :=
  match o with
  | none => none
  | some n => if 56320 ≤ n ∧ n ≤ 57343 then none else if n < 55296 ∨ 57343 < n then some (n, 6) else esc2 n o6
theorem escU_is (t : ByteArray) : escU t 0 = esc1 (uni t 0) (uni t 6) := by
  unfold escU esc1 esc2
  rw [Nat.zero_add]
  cases uni t 0 with
  | none => rfl
  | some n => cases uni t 6 <;> rfl

end Go.Proofs.YtabfojdieegklaaGreatDoor
