/-
  THE WALKS OF THE LAWS QuoteBack, QuoteEnds.
-/
import Derived.Test.YtmadgdafgkleiaaGreatDoorQSmall
import Derived.Test.YtmadgdafgkleiaaGreatDoorUnqD
namespace Go.Proofs.YtmadgdafgkleiaaGreatDoor
open Go.RowKit
theorem quoteM_len (s : ByteArray) : (quoteM s).1.length ≤ 6 * s.size + 2 := by
  by_cases h : (valid s).2 = true
  · rw [quoteM_yes h]
    have := quoteB_len s.data.toList
    have e : s.data.toList.length = s.size := Array.length_toList
    rw [e] at this
    simp only [List.length_append, List.length_cons, List.length_nil, List.cons_append]
    omega
  · rw [quoteM_no h]; simp
theorem encAll_len (l : List Nat) : (encAll l).length ≤ 4 * l.length := by
  induction l with
  | nil => exact Nat.le_refl _
  | cons r l ih =>
    have := encB_len r
    show (encB r ++ encAll l).length ≤ _
    rw [List.length_append, List.length_cons]; omega
theorem scanGo_len (s : ByteArray) : ∀ (f p : Nat) (acc : List Nat), acc.length ≤ p → p ≤ s.size → (scanGo s f p acc).2.2.length ≤ s.size
  | 0, p, acc, h, hp => Nat.le_trans h hp
  | f + 1, p, acc, h, hp => by
    unfold scanGo
    by_cases hps : p < s.size
    · rw [if_pos hps]
      by_cases h34 : byt s p = 34
      · rw [if_pos h34]; exact Nat.le_trans h hp
      · rw [if_neg h34]
        cases hpm : partM s p with
        | none => exact Nat.le_trans h hp
        | some x =>
          obtain ⟨r, n⟩ := x
          have hbd := partM_bd hps hpm
          refine scanGo_len s f (p + n) (acc ++ [r]) ?_ hbd.2.2.2.1
          rw [List.length_append, List.length_singleton]; omega
    · rw [if_neg hps]; exact Nat.le_trans h hp
theorem unquote_len (t : ByteArray) : (unquoteM t).1.length ≤ 4 * t.size := by
  have h : (scanM t 0).2.2.length ≤ t.size := by
    unfold scanM
    split
    · rename_i h; exact scanGo_len t _ _ [] (Nat.zero_le _) h.1
    · exact Nat.zero_le _
  unfold unquoteM
  generalize scanM t 0 = x at *
  have h2 := encAll_len x.2.2
  simp only
  split
  · exact Nat.zero_le _
  · split
    · exact Nat.zero_le _
    · simp only; omega
end Go.Proofs.YtmadgdafgkleiaaGreatDoor

