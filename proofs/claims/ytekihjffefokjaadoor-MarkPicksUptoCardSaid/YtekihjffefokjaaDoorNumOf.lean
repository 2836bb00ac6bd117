/-
  WALKS: (literal).number: what a literal is.
-/
import Derived.Test.YtekihjffefokjaaDoorNumDigits
import Derived.Deep.DeepCutAuto
namespace Go.Proofs.YtekihjffefokjaaDoor
open Go.RowKit

/-- a decimal: below nought, its digits, its exponent -/
structure Dec where
  neg : Bool
  digits : Bs
  exp : Int
  deriving DecidableEq
def Dec.zero : Dec := ⟨false, [], 0⟩
def Dec.val (d : Dec) : Value := .agg #[.bool d.neg, .string (st d.digits), .int .i64 d.exp]

/-- digits as a whole number -/
def numOf (l : Bs) : Int := l.foldl (fun n c => n * 10 + ((c.toNat : Int) - 48)) 0
def stripL (l : Bs) : Bs := Lib.trimLeftB l 48
def stripR (l : Bs) : Bs := Lib.trimRightB l 48
/-- what parts are, their exponent's digits being these -/
def numM (neg : Bool) (whole frac : Bs) (down : Bool) (power : Bs) : Dec :=
  let all := stripL (whole ++ frac)
  let short := stripR all
  if short = [] then .zero else ⟨neg, short, (if down then - numOf power else numOf power) - frac.length + all.length - short.length⟩

theorem numOf_snoc (l : Bs) (c : UInt8) : numOf (l ++ [c]) = numOf l * 10 + ((c.toNat : Int) - 48) := by
  unfold numOf; rw [List.foldl_append]; rfl
theorem numOf_bd (l : Bs) (h : l.all isDig = true) : 0 ≤ numOf l ∧ numOf l ≤ 10 ^ l.length - 1 := by
  suffices H : ∀ (n : Nat) (l : Bs), l.length = n → l.all isDig = true → 0 ≤ numOf l ∧ numOf l ≤ 10 ^ l.length - 1 from H _ l rfl h
  intro n
  induction n with
  | zero => intro l hl _; have : l = [] := List.eq_nil_of_length_eq_zero hl; subst this; simp [numOf]
  | succ n ih =>
    intro l hl ha
    obtain ⟨m, c, rfl⟩ : ∃ m c, l = m ++ [c] := ⟨l.dropLast, l.getLast (by intro h; rw [h] at hl; simp at hl), (List.dropLast_concat_getLast _).symm⟩
    simp only [List.length_append, List.length_cons, List.length_nil, List.all_append, List.all_cons, List.all_nil, Bool.and_true, Bool.and_eq_true] at hl ha ⊢
    have hm := ih m (by omega) ha.1
    have hc := ha.2
    unfold isDig at hc
    simp only [Bool.and_eq_true, decide_eq_true_eq] at hc
    rw [numOf_snoc]
    have hp : (10 : Int) ^ (m.length + 1) = 10 * 10 ^ m.length := by rw [Int.pow_succ]; omega
    rw [Nat.zero_add, hp]
    omega
theorem numOf_le (l : Bs) (h : l.all isDig = true) (hl : l.length ≤ 9) : 0 ≤ numOf l ∧ numOf l ≤ 999999999 := by
  have := numOf_bd l h
  have hm : (10 : Int) ^ l.length ≤ 10 ^ 9 := by
    have h2 : (10 : Nat) ^ l.length ≤ 10 ^ 9 := Nat.pow_le_pow_right (by omega) hl
    exact_mod_cast h2
  have e : (10 : Int) ^ 9 = 1000000000 := by decide
  omega
theorem stripL_le (l : Bs) : (stripL l).length ≤ l.length := by
  unfold stripL Lib.trimLeftB
  exact (List.dropWhile_suffix _).length_le
theorem stripR_le (l : Bs) : (stripR l).length ≤ l.length := by
  unfold stripR Lib.trimRightB
  rw [List.length_reverse]
  have := (List.dropWhile_suffix (p := (· == (48 : UInt8))) (l := l.reverse)).length_le
  rwa [List.length_reverse] at this
theorem cat_st (a b : Bs) : st a ++ st b = st (a ++ b) := by
  apply ByteArray.ext
  simp
theorem three_cells {w : World} {g : Nat} {t : TypeId} {a b c : Value} (h : Whole w g t #[a, b, c]) :
    w.cell? ⟨g, 0, none⟩ = some a ∧ w.cell? ⟨g, 1, none⟩ = some b ∧ w.cell? ⟨g, 2, none⟩ = some c := ⟨h.at_ 0, h.at_ 1, h.at_ 2⟩

def DecPost (R : Dec) (w : World) (e : Ending) (w' : World) : Prop := e = .returned R.val ∧ Below w.heap.size w w'
def expOf (down : Bool) (power : Bs) : Int := if down then - numOf power else numOf power

end Go.Proofs.YtekihjffefokjaaDoor
