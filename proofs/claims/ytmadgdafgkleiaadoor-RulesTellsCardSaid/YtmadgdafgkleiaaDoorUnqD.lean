/-
  PLAIN MATHEMATICS: what is quoted is unquoted; what is unquoted is UTF-8.
-/
import Derived.Test.YtmadgdafgkleiaaDoorUnv
import Derived.Test.YtmadgdafgkleiaaDoorQuoteQ
namespace Go.Proofs.YtmadgdafgkleiaaDoor
open Go.RowKit
def At (t : ByteArray) (k : Nat) (l : Bs) : Prop := ∃ rest, t.data.toList.drop k = l ++ rest
theorem At.cons {t : ByteArray} {k : Nat} {x : UInt8} {l : Bs} (h : At t k (x :: l)) : k < t.size ∧ byt t k = x.toNat ∧ At t (k + 1) l := by
  obtain ⟨r, hr⟩ := h
  have hk : k < t.data.toList.length := by
    rcases Nat.lt_or_ge k t.data.toList.length with h | h
    · exact h
    · rw [List.drop_eq_nil_of_le h] at hr; cases hr
  rw [List.drop_eq_getElem_cons hk, List.cons_append] at hr
  injection hr with h1 h2
  have hk2 : k < t.size := by rw [Array.length_toList] at hk; exact hk
  refine ⟨hk2, ?_, r, h2⟩
  rw [byt_eq t k hk2, ← h1]
  rfl
theorem At.skip {t : ByteArray} : ∀ {a b : Bs} {k : Nat}, At t k (a ++ b) → At t (k + a.length) b
  | [], b, k, h => h
  | x :: a, b, k, h => by
    have := (At.cons h).2.2.skip
    rwa [show k + 1 + a.length = k + (x :: a).length by simp; omega] at this
theorem At.take {t : ByteArray} {a b : Bs} {k : Nat} (h : At t k (a ++ b)) : At t k a := by
  obtain ⟨r, hr⟩ := h
  exact ⟨b ++ r, by rw [hr, List.append_assoc]⟩
theorem At.le {t : ByteArray} : ∀ {a : Bs} {k : Nat}, At t k a → k ≤ t.size → k + a.length ≤ t.size
  | [], k, _, hk => hk
  | x :: a, k, h, _ => by
    have h1 := At.cons h
    have := At.le h1.2.2 (by omega)
    simp; omega
theorem At.get {t : ByteArray} : ∀ {a : Bs} {k : Nat}, At t k a → ∀ j (hj : j < a.length), byt t (k + j) = (a[j]'hj).toNat
  | [], k, _, j, hj => absurd hj (by simp)
  | x :: a, k, h, 0, hj => (At.cons h).2.1
  | x :: a, k, h, j + 1, hj => by
    have := At.get (At.cons h).2.2 j (by simpa using hj)
    rw [show k + (j + 1) = k + 1 + j by omega, this]
    rfl
theorem quoteM_yes {s : ByteArray} (h : (valid s).2 = true) : quoteM s = (34 :: quoteB s.data.toList ++ [34], 0) := by unfold quoteM; rw [if_pos h]
theorem quoteM_no {s : ByteArray} (h : ¬ (valid s).2 = true) : quoteM s = ([], 2) := by unfold quoteM; rw [if_neg h]
end Go.Proofs.YtmadgdafgkleiaaDoor

