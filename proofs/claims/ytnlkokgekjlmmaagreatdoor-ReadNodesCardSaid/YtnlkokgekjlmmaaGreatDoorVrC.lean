/-
  WALKS: the document's utf, decimal, node, nodes, Open, Right of layer 6.
  WALKS: the document's nodes, Open, Right, at, Get, Copy, Of, Num of layer 6.
  WALK: the document's Get of layer 6.
-/
import Derived.Test.YtnlkokgekjlmmaaGreatDoorVtNT
import Derived.Test.YtnlkokgekjlmmaaGreatDoorRefV
import Derived.Test.YtnlkokgekjlmmaaGreatDoorVsC
import Derived.Test.YtnlkokgekjlmmaaGreatDoorVtUB
namespace Go.Proofs.YtnlkokgekjlmmaaGreatDoor
open Go.RowKit
/-! ### which nodes may be, as the document tells it -/
def membersR (ks : List Bs) (n : Nat) : Bool := decide (ks.length = n) && (ks.all (fun k => (valid (st k)).2) && decide ks.Nodup)
def nodeR (v : Vl) : Bool :=
 if v.k = 5 then decide (v.t = []) && decide (v.ks = [])
 else if v.k = 6 then decide (v.t = []) && membersR v.ks v.is.length
 else (decide (v.ks = []) && decide (v.is = [])) && scalarM v.k v.t
def KeyOk (ks : List Bs) (j : Nat) : Prop := ∀ i (_ : i < j) (hl : i < ks.length), (valid (st ks[i])).2 = true ∧ ∀ q (hq : q < i), ks[q] ≠ ks[i]
theorem KeyOk.zero (ks : List Bs) : KeyOk ks 0 := fun i h _ => absurd h (Nat.not_lt_zero i)
theorem KeyOk.step {ks : List Bs} {j : Nat} (h : KeyOk ks j) (hj : j < ks.length) (hv : (valid (st ks[j])).2 = true) (hd : ∀ q (hq : q < j), ks[q] ≠ ks[j]) : KeyOk ks (j + 1) := fun i hi hl => by
 by_cases e : i = j
 · subst e; exact ⟨hv, hd⟩
 · exact h i (by omega) hl
theorem KeyOk.all {ks : List Bs} (h : KeyOk ks ks.length) : (ks.all (fun k => (valid (st k)).2) && decide ks.Nodup) = true := by
 simp only [Bool.and_eq_true, List.all_eq_true, decide_eq_true_eq]
 refine ⟨fun x hx => ?_, ?_⟩
 · obtain ⟨i, hi, rfl⟩ := List.mem_iff_getElem.1 hx
   exact (h i hi hi).1
 · exact List.pairwise_iff_getElem.2 (fun i j hi hj hij => (h j hj hj).2 i hij)
def okR (h : Bool) (v : Vl) : Bool := nodeR v && (h || decide (v.k ≠ 7))
theorem ixOf_first {l : List Bs} {k : Bs} : ∀ {j : Nat} (h : j < l.length), l[j] = k → (∀ q (hq : q < j), l[q] ≠ k) → ixOf l k = some j := by
 induction l with
 | nil => intro j h; exact absurd h (by simp)
 | cons x l ih =>
   intro j h he hn
   unfold ixOf
   cases j with
   | zero => rw [if_pos (by simpa using he)]
   | succ j =>
     rw [if_neg (by simpa using hn 0 (by omega)), ih (j := j) (by simpa using h) (by simpa using he) (fun q hq => by simpa using hn (q + 1) (by omega))]
     rfl
theorem ixOf_absent {k : Bs} : ∀ {l : List Bs}, (∀ j (hj : j < l.length), l[j] ≠ k) → ixOf l k = none
 | [], _ => rfl
 | x :: l, h => by
   unfold ixOf
   rw [if_neg (show x ≠ k from h 0 (by simp)), ixOf_absent (l := l) (fun j hj => (show l[j] ≠ k from h (j + 1) (by simpa using hj)))]
   rfl
theorem textM_lenV (d : Dec) (he : -9223372036854775808 ≤ d.exp ∧ d.exp ≤ 9223372036854775807) : (textM d).length ≤ d.digits.length + 1010 := by
 have h := (decDigits_shortU d.exp he.1 he.2).2
 unfold textM
 split
 · split
   · simp
   · simp only [List.length_append]
     have h1 : (if d.neg = true then [45] else ([] : Bs)).length ≤ 1 := by split <;> simp
     have h2 : (if d.exp ≠ 0 then 101 :: Lib.itoa d.exp else ([] : Bs)).length ≤ 1001 := by split <;> simp <;> omega
     omega
 · simp
end Go.Proofs.YtnlkokgekjlmmaaGreatDoor
