/-
  PLAIN MATHEMATICS: the tokens of two texts with a comma between them.
-/
import Derived.Test.YtinenhnfhdeidaaDoorLexT
namespace Go.Proofs.YtinenhnfhdeidaaDoor
open Go.RowKit

theorem comma_list (a b : ByteArray) : (a ++ ⟨#[44]⟩ ++ b).data.toList = (a.data.toList ++ [44]) ++ b.data.toList := by simp
theorem comma_size (a b : ByteArray) : (a ++ ⟨#[44]⟩ ++ b).size = a.size + 1 + b.size := by
  have h := congrArg List.length (comma_list a b)
  rw [List.length_append, List.length_append, Array.length_toList, Array.length_toList, Array.length_toList] at h
  exact h
theorem byt_list (s : ByteArray) (j : Nat) (h : j < s.size) : byt s j = (s.data.toList[j]'(by rw [Array.length_toList]; exact h)).toNat := by
  rw [byt_eq s j h]; rfl
theorem comma_at (a b : ByteArray) : byt (a ++ ⟨#[44]⟩ ++ b) a.size = 44 := by
  have hz := comma_size a b
  have hl : a.data.toList.length = a.size := Array.length_toList
  rw [byt_list _ _ (by omega)]
  simp only [comma_list]
  rw [List.getElem_append_left (by rw [List.length_append, hl]; simp), List.getElem_append_right (by omega)]
  simp [hl]
theorem comma_front (a b : ByteArray) (j : Nat) (h : j < a.size) : byt (a ++ ⟨#[44]⟩ ++ b) j = byt a j := by
  have hz := comma_size a b
  have hl : a.data.toList.length = a.size := Array.length_toList
  rw [byt_list _ _ (by omega), byt_list a j h]
  simp only [comma_list]
  rw [List.getElem_append_left (by rw [List.length_append, hl]; simp; omega), List.getElem_append_left (by omega)]
theorem comma_back (a b : ByteArray) (p : Nat) : b.extract p b.size = (a ++ ⟨#[44]⟩ ++ b).extract (a.size + 1 + p) (a ++ ⟨#[44]⟩ ++ b).size := by
  have hz := comma_size a b
  have hl : (a.data.toList ++ [44]).length = a.size + 1 := by rw [List.length_append, Array.length_toList]; rfl
  rw [extract_st, extract_st, comma_list, hz]
  have e : List.drop (a.size + 1 + p) ((a.data.toList ++ [44]) ++ b.data.toList) = List.drop p b.data.toList := by
    rw [← hl, ← List.drop_drop, List.drop_left]
  rw [e, show a.size + 1 + b.size - (a.size + 1 + p) = b.size - p by omega]
theorem tokensM_join {a b : ByteArray} (h : (tokensM a).2.2 = 0) (hz : (a ++ ⟨#[44]⟩ ++ b).size ≤ 65536) :
    tokensM (a ++ ⟨#[44]⟩ ++ b) = if (tokensM b).2.2 ≠ 0 then ([], a.size + 1 + (tokensM b).2.1, (tokensM b).2.2) else ((tokensM a).1 ++ (6, a.size, a.size + 1) :: (tokensM b).1.map (shiftT (a.size + 1)), a.size + 1 + b.size, 0) := by
  have hs := comma_size a b
  have hA : tokensM a = if (toksM a).2.2 ≠ 0 then ([], (toksM a).2.1, (toksM a).2.2) else ((toksM a).1, a.size, 0) := if_neg (by omega)
  have hB : tokensM b = if (toksM b).2.2 ≠ 0 then ([], (toksM b).2.1, (toksM b).2.2) else ((toksM b).1, b.size, 0) := if_neg (by omega)
  have hA0 : (toksM a).2.2 = 0 := by
    rw [hA] at h
    by_cases h1 : (toksM a).2.2 ≠ 0
    · rw [if_pos h1] at h; exact h
    · omega
  have hj := toks_join hs (fun p _ => comma_back a b p) (comma_at a b) (comma_front a b) hA0
  rw [if_neg (by omega)] at hA
  have hT : tokensM (a ++ ⟨#[44]⟩ ++ b) = if (toksM (a ++ ⟨#[44]⟩ ++ b)).2.2 ≠ 0 then ([], (toksM (a ++ ⟨#[44]⟩ ++ b)).2.1, (toksM (a ++ ⟨#[44]⟩ ++ b)).2.2) else ((toksM (a ++ ⟨#[44]⟩ ++ b)).1, (a ++ ⟨#[44]⟩ ++ b).size, 0) := if_neg (by omega)
  rw [hT, hj, hA, hB, hs]
  simp only
  by_cases h2 : (toksM b).2.2 ≠ 0
  · rw [if_pos h2, if_pos h2, if_pos h2]
  · rw [if_neg h2, if_neg h2, if_neg (by simp)]
theorem shift_cells (X : List Tok) (m kd fr t2 : Nat) : tokCells (X ++ [shiftT (m + 1) (kd, fr, t2)]) = tokCells X ++ [.int .i64 (kd : Int), .int .i64 ((fr : Int) + (m : Int) + 1), .int .i64 ((t2 : Int) + (m : Int) + 1)] := by
  rw [tokCells_snoc]
  have e1 : (((shiftT (m + 1) (kd, fr, t2)).2.1 : Nat) : Int) = (fr : Int) + (m : Int) + 1 := by
    show ((m + 1 + fr : Nat) : Int) = _
    omega
  have e2 : (((shiftT (m + 1) (kd, fr, t2)).2.2 : Nat) : Int) = (t2 : Int) + (m : Int) + 1 := by
    show ((m + 1 + t2 : Nat) : Int) = _
    omega
  rw [e1, e2]
  rfl
end Go.Proofs.YtinenhnfhdeidaaDoor
