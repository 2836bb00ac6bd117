/-
  PLAIN MATHEMATICS: strings.Cut as a cut of a list; a text's lines; the run of a text by its lines.
-/
import Derived.Test.YtekihjffefokjaaDoorMkM
import Derived.Lib.IndexMore
import Derived.Lib.TrimByte
namespace Go.Proofs.YtekihjffefokjaaDoor

def cutR (s : Bs) : Option (Bs × Bs) → Bs × Bs × Bool
  | none => (s, [], false)
  | some (a, b) => (a, b, true)
theorem index_cutL (m : Bs) (hm : m ≠ []) : ∀ s : Bs, Lib.index s m = match cutL m s with | none => -1 | some (a, _) => (a.length : Int)
  | [] => by
    unfold Lib.index
    rw [if_neg (by rw [List.isEmpty_iff]; exact hm)]; rfl
  | b :: s => by
    have ih := index_cutL m hm s
    unfold Lib.index cutL
    split
    · rfl
    · rw [ih]
      cases cutL m s with
      | none => rfl
      | some x =>
        obtain ⟨a, c⟩ := x
        have : ((a.length : Int) == -1) = false := beq_eq_false_iff_ne.2 (by omega)
        show (if ((a.length : Int) == -1) = true then -1 else (a.length : Int) + 1) = ((b :: a).length : Int)
        rw [if_neg (by rw [this]; exact Bool.false_ne_true), List.length_cons]
        rfl
theorem cut_eq (m : Bs) (hm : m ≠ []) (s : Bs) : Lib.cut s m = cutR s (cutL m s) := by
  unfold Lib.cut
  rw [index_cutL m hm s]
  cases hc : cutL m s with
  | none => rw [if_neg (by decide)]; rfl
  | some x =>
    obtain ⟨a, c⟩ := x
    have hs := cutL_is hc
    simp only
    rw [if_pos (by omega)]
    show (s.take ((a.length : Int)).toNat, s.drop (((a.length : Int)).toNat + m.length), true) = (a, c, true)
    rw [Int.toNat_natCast, hs]
    congr 1
    · simp
    · rw [← List.append_assoc, ← List.length_append, List.drop_left]
theorem cut10_none : ∀ {s : Bs}, cutL [10] s = none → ∀ x ∈ s, x ≠ 10
  | [], _, x, hx => by cases hx
  | b :: s, h, x, hx => by
    unfold cutL at h
    split at h
    · cases h
    · rename_i hp
      have hb : b ≠ 10 := fun e => hp (by subst e; rfl)
      cases hc : cutL [10] s with
      | some y => rw [hc] at h; cases h
      | none =>
        rcases List.mem_cons.1 hx with rfl | hx
        · exact hb
        · exact cut10_none hc x hx
theorem cut10_some : ∀ {s a b : Bs}, cutL [10] s = some (a, b) → (∀ x ∈ a, x ≠ 10) ∧ s = a ++ 10 :: b
  | [], _, _, h => by cases h
  | y :: s, a, b, h => by
    refine ⟨?_, cutL_is h⟩
    unfold cutL at h
    split at h
    · have := Option.some.inj h
      injection this with h1 h2
      subst h1
      intro x hx; cases hx
    · rename_i hp
      have hb : y ≠ 10 := fun e => hp (by subst e; rfl)
      cases hc : cutL [10] s with
      | none => rw [hc] at h; cases h
      | some z =>
        obtain ⟨a', b'⟩ := z
        rw [hc] at h
        have := Option.some.inj h
        injection this with h1 h2
        subst h1
        intro x hx
        rcases List.mem_cons.1 hx with rfl | hx
        · exact hb
        · exact (cut10_some hc).1 x hx
theorem cutL_len {m s a b : Bs} (h : cutL m s = some (a, b)) : a.length + m.length + b.length = s.length := by
  have := congrArg List.length (cutL_is h)
  simp only [List.length_append] at this
  omega
/-- a text's lines -/
def linesF : Nat → Bs → List Bs
  | 0, _ => []
  | f + 1, r => match cutL [10] r with
    | none => [r]
    | some (a, b) => a :: linesF f b
def linesL (s : Bs) : List Bs := linesF (s.length + 1) s
theorem linesF_none {f : Nat} {r : Bs} (h : cutL [10] r = none) : linesF (f + 1) r = [r] := by conv => lhs; unfold linesF; rw [h]
theorem linesF_some {f : Nat} {r a b : Bs} (h : cutL [10] r = some (a, b)) : linesF (f + 1) r = a :: linesF f b := by conv => lhs; unfold linesF; rw [h]
def maxRun (a : Nat) (ls : List Bs) : Nat := ls.foldl (fun m l => max m (runL l)) a
theorem maxRun_snoc (a : Nat) (ls : List Bs) (l : Bs) : maxRun a (ls ++ [l]) = max (maxRun a ls) (runL l) := by
  unfold maxRun
  rw [List.foldl_append]; rfl
theorem maxRun_lines : ∀ (f : Nat) (r : Bs) (a : Nat), r.length < f → maxRun a (linesF f r) = max a (runM r)
  | 0, r, a, h => by omega
  | f + 1, r, a, h => by
    cases hc : cutL [10] r with
    | none =>
      rw [linesF_none hc, runM_line (cut10_none hc)]; rfl
    | some x =>
      obtain ⟨u, v⟩ := x
      have hl := cutL_len hc
      obtain ⟨h1, h2⟩ := cut10_some hc
      rw [linesF_some hc]
      show maxRun (max a (runL u)) (linesF f v) = _
      rw [maxRun_lines f v _ (by rw [List.length_singleton] at hl; omega), h2, runM_next h1, Nat.max_assoc]
theorem run_lines (s : Bs) : maxRun 0 (linesL s) = runM s := by
  unfold linesL
  rw [maxRun_lines _ _ _ (Nat.lt_succ_self _), Nat.zero_max]
theorem linesF_sizes : ∀ (f : Nat) (r : Bs), ∀ l ∈ linesF f r, l.length ≤ r.length
  | 0, _, l, h => by cases h
  | f + 1, r, l, h => by
    cases hc : cutL [10] r with
    | none => rw [linesF_none hc] at h; rw [List.mem_singleton.1 h]; exact Nat.le_refl _
    | some x =>
      obtain ⟨u, v⟩ := x
      have hl := cutL_len hc
      rw [linesF_some hc] at h
      rcases List.mem_cons.1 h with rfl | h
      · omega
      · have := linesF_sizes f v l h
        omega
theorem trimL_drop (c : UInt8) : ∀ l : Bs, (Lib.trimLeftB l c).length + lead c l = l.length
  | [] => rfl
  | b :: l => by
    unfold Lib.trimLeftB lead
    by_cases h : b = c
    · subst h
      have := trimL_drop b l
      unfold Lib.trimLeftB at this
      rw [if_pos rfl, List.dropWhile_cons_of_pos (by simp)]
      simp only [List.length_cons]; omega
    · rw [if_neg h, List.dropWhile_cons_of_neg (by simpa using h)]; rfl
theorem runL_le (l : Bs) : runL l ≤ l.length := by
  have h1 := lead_le 60 l
  have h2 := lead_le 124 l
  have h3 := lead_le 61 l
  have h4 := lead_le 62 l
  unfold runL; omega
end Go.Proofs.YtekihjffefokjaaDoor
