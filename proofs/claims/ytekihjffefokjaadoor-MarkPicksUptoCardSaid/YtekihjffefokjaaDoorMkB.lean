/-
  PLAIN MATHEMATICS: which parts are right, told by a Bool.
-/
import Derived.Test.YtekihjffefokjaaDoorMkD
namespace Go.Proofs.YtekihjffefokjaaDoor

/-- may a text not be like this, behind a text or not? -/
def textB (a : Bool) (x : MPart) : Bool := a && !x.text.isEmpty && (x.s0.isEmpty && x.s1.isEmpty && x.s2.isEmpty)
def okB : Bool → List MPart → Bool
  | _, [] => true
  | a, x :: l => if x.hunk = true then x.text.isEmpty && okB true l else textB a x && okB false l
theorem okB_iff : ∀ (l : List MPart) (a : Bool), okB a l = true ↔ okL a l
  | [], _ => ⟨fun _ => trivial, fun _ => rfl⟩
  | x :: l, a => by
    unfold okB okL
    cases hx : x.hunk with
    | true => rw [if_pos rfl, if_pos rfl, Bool.and_eq_true, okB_iff l true, List.isEmpty_iff]
    | false =>
      rw [if_neg Bool.false_ne_true, if_neg Bool.false_ne_true, Bool.and_eq_true, okB_iff l false]
      unfold textB
      simp only [Bool.and_eq_true, List.isEmpty_iff, Bool.not_eq_true', List.isEmpty_eq_false_iff]
      constructor
      · rintro ⟨⟨⟨h1, h2⟩, ⟨h3, h4⟩, h5⟩, h6⟩; exact ⟨h1, h2, h3, h4, h5, h6⟩
      · rintro ⟨h1, h2, h3, h4, h5, h6⟩; exact ⟨⟨⟨h1, h2⟩, ⟨h3, h4⟩, h5⟩, h6⟩
def rightB (l : List MPart) : Bool := decide (l.length ≤ 4096) && okB true l
theorem rightB_iff (l : List MPart) : rightB l = true ↔ RightM l := by
  unfold rightB RightM
  rw [Bool.and_eq_true, decide_eq_true_eq, okB_iff]
/-- may a text stand at k? -/
def flagB (l : List MPart) : Nat → Bool
  | 0 => true
  | k + 1 => (l[k]?.map MPart.hunk).getD true
theorem flagB_succ {l : List MPart} {k : Nat} (h : k < l.length) : flagB l (k + 1) = l[k].hunk := by
  show (l[k]?.map MPart.hunk).getD true = _
  rw [List.getElem?_eq_getElem h]; rfl
theorem okB_step {l : List MPart} {k : Nat} (h : k < l.length) : okB (flagB l k) (l.drop k) = if l[k].hunk = true then l[k].text.isEmpty && okB (flagB l (k + 1)) (l.drop (k + 1)) else textB (flagB l k) l[k] && okB (flagB l (k + 1)) (l.drop (k + 1)) := by
  rw [List.drop_eq_getElem_cons h, okB, flagB_succ h]
  cases l[k].hunk
  · rw [if_neg Bool.false_ne_true, if_neg Bool.false_ne_true]
  · rw [if_pos rfl, if_pos rfl]
theorem okB_end {l : List MPart} {k : Nat} (h : ¬ k < l.length) (a : Bool) : okB a (l.drop k) = true := by
  rw [List.drop_eq_nil_of_le (by omega)]; rfl
theorem anyH_step {l : List MPart} {k : Nat} (h : k < l.length) : anyH (l.drop k) = (l[k].hunk || anyH (l.drop (k + 1))) := by
  rw [List.drop_eq_getElem_cons h]; rfl
theorem anyH_end {l : List MPart} {k : Nat} (h : ¬ k < l.length) : anyH (l.drop k) = false := by
  rw [List.drop_eq_nil_of_le (by omega)]; rfl
theorem grtGo_step {l : List MPart} {k a : Nat} (h : k < l.length) : grtGo a (l.drop k) = grtGo (max a (runsM l[k])) (l.drop (k + 1)) := by
  rw [List.drop_eq_getElem_cons h]; rfl
theorem grtGo_end {l : List MPart} {k a : Nat} (h : ¬ k < l.length) : grtGo a (l.drop k) = a := by
  rw [List.drop_eq_nil_of_le (by omega)]; rfl
theorem encGo_step {l : List MPart} {n k : Nat} (h : k < l.length) : encGo n (l.drop k) = partB n l[k] ++ encGo n (l.drop (k + 1)) := by
  rw [List.drop_eq_getElem_cons h]; rfl
theorem encGo_end {l : List MPart} {n k : Nat} (h : ¬ k < l.length) : encGo n (l.drop k) = [] := by
  rw [List.drop_eq_nil_of_le (by omega)]; rfl
theorem nH_step {l : List MPart} {k : Nat} (h : k < l.length) : nH (l.drop k) = (if l[k].hunk = true then 1 else 0) + nH (l.drop (k + 1)) := by
  rw [List.drop_eq_getElem_cons h]; rfl
theorem nH_end {l : List MPart} {k : Nat} (h : ¬ k < l.length) : nH (l.drop k) = 0 := by
  rw [List.drop_eq_nil_of_le (by omega)]; rfl
theorem nH_le : ∀ l : List MPart, nH l ≤ l.length
  | [] => Nat.le_refl _
  | x :: l => by
    have := nH_le l
    unfold nH
    rw [List.length_cons]
    split <;> omega
end Go.Proofs.YtekihjffefokjaaDoor
