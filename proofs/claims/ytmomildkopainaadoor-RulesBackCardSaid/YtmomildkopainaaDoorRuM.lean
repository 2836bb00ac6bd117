/-
  PLAIN MATHEMATICS of rules: which rows of texts a pattern fits.
-/
import Derived.Test.YtmomildkopainaaDoorNumMath
namespace Go.Proofs.YtmomildkopainaaDoor

/-- what a step of a pattern fits -/
def stepAny (x : Bs) : Bool := x == [42]
def isRow (x : Bs) : Bool := x == [42, 42]
def orScan (a : Bool) : List Bool → List Bool
  | [] => []
  | x :: l => (a || x) :: orScan (a || x) l
def andRow (x : Bs) : List Bool → List Bs → List Bool
  | f :: fs, y :: ys => (f && (stepAny x || x == y)) :: andRow x fs ys
  | _, _ => []
/-- a step of a pattern turns what fits ahead of it -/
def rowM (path : List Bs) (x : Bs) (fits : List Bool) : List Bool := if isRow x = true then orScan false fits else false :: andRow x fits path
def fit0 (n : Nat) : List Bool := true :: List.replicate n false
def fitsM (path : List Bs) (p : List Bs) : List Bool := p.foldl (fun f x => rowM path x f) (fit0 path.length)
def matchM (p path : List Bs) : Bool := if 200 < p.length ∨ 200 < path.length then false else (fitsM path p).getD path.length false
theorem orScan_len : ∀ (l : List Bool) (a : Bool), (orScan a l).length = l.length
  | [], _ => rfl
  | x :: l, a => by simp [orScan, orScan_len l]
theorem andRow_len (x : Bs) : ∀ (fs : List Bool) (ys : List Bs), (andRow x fs ys).length = min fs.length ys.length
  | f :: fs, y :: ys => by simp [andRow, andRow_len x fs ys]
  | [], _ => by simp [andRow]
  | _ :: _, [] => by simp [andRow]
theorem rowM_len {path : List Bs} {x : Bs} {fits : List Bool} (h : fits.length = path.length + 1) : (rowM path x fits).length = path.length + 1 := by
  unfold rowM
  split
  · rw [orScan_len, h]
  · rw [List.length_cons, andRow_len, h]; omega
theorem fit0_len (n : Nat) : (fit0 n).length = n + 1 := by simp [fit0]
theorem foldl_len (path : List Bs) : ∀ (p : List Bs) (f : List Bool), f.length = path.length + 1 → (p.foldl (fun f x => rowM path x f) f).length = path.length + 1
  | [], _, h => h
  | _ :: p, _, h => foldl_len path p _ (rowM_len h)
theorem fitsM_len (path p : List Bs) : (fitsM path p).length = path.length + 1 := foldl_len path p _ (fit0_len _)
theorem orScan_get : ∀ (l : List Bool) (a : Bool) (i : Nat), i < l.length → ((orScan a l)[i]? = some true ↔ (a = true ∨ ∃ j, j ≤ i ∧ l[j]? = some true))
  | [], _, _, h => absurd h (by simp)
  | x :: l, a, 0, _ => by
    simp [orScan]
  | x :: l, a, i + 1, h => by
    have := orScan_get l (a || x) i (by simpa using h)
    simp only [orScan, List.getElem?_cons_succ, this, Bool.or_eq_true]
    constructor
    · rintro ((h | h) | ⟨j, h1, h2⟩)
      · exact .inl h
      · exact .inr ⟨0, by omega, by simpa using h⟩
      · exact .inr ⟨j + 1, by omega, by simpa using h2⟩
    · rintro (h | ⟨j, h1, h2⟩)
      · exact .inl (.inl h)
      · cases j with
        | zero => exact .inl (.inr (by simpa using h2))
        | succ j => exact .inr ⟨j, by omega, by simpa using h2⟩
theorem andRow_get (x : Bs) : ∀ (fs : List Bool) (ys : List Bs) (i : Nat), (andRow x fs ys)[i]? = some true ↔ (fs[i]? = some true ∧ ∃ y, ys[i]? = some y ∧ (stepAny x = true ∨ x = y))
  | [], ys, i => by simp [andRow]
  | _ :: _, [], i => by simp [andRow]
  | f :: fs, y :: ys, 0 => by simp [andRow]
  | f :: fs, y :: ys, i + 1 => by simp [andRow, andRow_get x fs ys i]
/-- which rows a pattern's steps fit -/
def Glob : List Bs → List Bs → Prop
  | [], l => l = []
  | x :: p, l => if isRow x = true then ∃ k, k ≤ l.length ∧ Glob p (l.drop k) else ∃ y l', l = y :: l' ∧ (stepAny x = true ∨ x = y) ∧ Glob p l'
theorem Glob.app : ∀ {p q a b : List Bs}, Glob p a → Glob q b → Glob (p ++ q) (a ++ b)
  | [], q, a, b, h, h' => by cases (show a = [] from h); exact h'
  | x :: p, q, a, b, h, h' => by
    unfold Glob at h
    show Glob (x :: (p ++ q)) (a ++ b)
    unfold Glob
    by_cases hx : isRow x = true
    · rw [if_pos hx] at h ⊢
      obtain ⟨k, hk, hg⟩ := h
      refine ⟨k, by rw [List.length_append]; omega, ?_⟩
      rw [List.drop_append_of_le_length hk]
      exact hg.app h'
    · rw [if_neg hx] at h ⊢
      obtain ⟨y, l', rfl, hy, hg⟩ := h
      exact ⟨y, l' ++ b, rfl, hy, hg.app h'⟩
theorem Glob.all (a : List Bs) : Glob [[42, 42]] a := by
  unfold Glob
  rw [if_pos (by decide)]
  exact ⟨a.length, Nat.le_refl _, by simp [Glob]⟩
theorem Glob.star {p a b : List Bs} (h : Glob p a) : Glob ([42, 42] :: p) (b ++ a) := (Glob.all b).app h
theorem Glob.plain : ∀ {p : List Bs} (l : List Bs), (∀ x ∈ p, x ≠ [42] ∧ x ≠ [42, 42]) → (Glob p l ↔ p = l)
  | [], l, _ => by unfold Glob; exact ⟨fun h => h.symm, fun h => h.symm⟩
  | x :: p, l, h => by
    obtain ⟨h1, h2⟩ := h x List.mem_cons_self
    have ih := fun l => Glob.plain (p := p) l (fun y hy => h y (List.mem_cons_of_mem _ hy))
    unfold Glob
    rw [if_neg (by unfold isRow; simpa using h2)]
    have h3 : ¬ stepAny x = true := by unfold stepAny; simpa using h1
    constructor
    · rintro ⟨y, l', rfl, hy, hg⟩
      rw [(ih l').1 hg, hy.resolve_left h3]
    · intro e
      subst e
      exact ⟨x, p, rfl, .inr rfl, (ih p).2 rfl⟩
/-- from any row of what fits: those that begin where it fits -/
theorem fold_glob (path : List Bs) : ∀ (p : List Bs) (f : List Bool), f.length = path.length + 1 → ∀ i, i ≤ path.length →
    ((p.foldl (fun f x => rowM path x f) f)[i]? = some true ↔ ∃ j, j ≤ i ∧ f[j]? = some true ∧ Glob p ((path.take i).drop j))
  | [], f, hf, i, hi => by
    simp only [List.foldl_nil, Glob]
    constructor
    · exact fun h => ⟨i, Nat.le_refl _, h, by simp⟩
    · rintro ⟨j, h1, h2, h3⟩
      have := congrArg List.length h3
      simp at this
      obtain rfl : j = i := by omega
      exact h2
  | x :: p, f, hf, i, hi => by
    rw [List.foldl_cons, fold_glob path p _ (rowM_len hf) i hi]
    by_cases hx : isRow x = true
    · constructor
      · rintro ⟨j, h1, h2, h3⟩
        unfold rowM at h2
        rw [if_pos hx, orScan_get _ _ _ (by omega)] at h2
        rcases h2 with h | ⟨j', h4, h5⟩
        · cases h
        · refine ⟨j', by omega, h5, ?_⟩
          unfold Glob
          rw [if_pos hx]
          refine ⟨j - j', by simp; omega, ?_⟩
          rw [List.drop_drop, show j' + (j - j') = j by omega]
          exact h3
      · rintro ⟨j, h1, h2, h3⟩
        unfold Glob at h3
        rw [if_pos hx] at h3
        obtain ⟨k, hk, hg⟩ := h3
        simp at hk
        refine ⟨j + k, by omega, ?_, by rw [← List.drop_drop]; exact hg⟩
        unfold rowM
        rw [if_pos hx, orScan_get _ _ _ (by omega)]
        exact .inr ⟨j, by omega, h2⟩
    · constructor
      · rintro ⟨j, h1, h2, h3⟩
        unfold rowM at h2
        rw [if_neg hx] at h2
        cases j with
        | zero => simp at h2
        | succ j =>
          rw [List.getElem?_cons_succ, andRow_get] at h2
          obtain ⟨h4, y, h5, h6⟩ := h2
          refine ⟨j, by omega, h4, ?_⟩
          unfold Glob
          rw [if_neg hx]
          have hy : (path.take i)[j]? = some y := by rw [List.getElem?_take]; rw [if_pos (by omega)]; exact h5
          obtain ⟨hj, e⟩ := List.getElem?_eq_some_iff.1 hy
          refine ⟨y, (path.take i).drop (j + 1), ?_, h6, h3⟩
          rw [List.drop_eq_getElem_cons hj, e]
      · rintro ⟨j, h1, h2, h3⟩
        unfold Glob at h3
        rw [if_neg hx] at h3
        obtain ⟨y, l', h4, h5, h6⟩ := h3
        have hj : j < (path.take i).length := by
          rcases Nat.lt_or_ge j (path.take i).length with h | h
          · exact h
          · rw [List.drop_eq_nil_of_le h] at h4; cases h4
        rw [List.drop_eq_getElem_cons hj] at h4
        injection h4 with h7 h8
        have hj2 : j < i := by simp at hj; omega
        refine ⟨j + 1, by omega, ?_, by rw [h8]; exact h6⟩
        unfold rowM
        rw [if_neg hx, List.getElem?_cons_succ, andRow_get]
        refine ⟨h2, y, ?_, h5⟩
        rw [← h7]
        have : (path.take i)[j]? = some (path.take i)[j] := List.getElem?_eq_getElem hj
        rw [List.getElem?_take, if_pos hj2] at this
        exact this
theorem matchM_iff {p path : List Bs} (hp : p.length ≤ 200) (hl : path.length ≤ 200) : matchM p path = true ↔ Glob p path := by
  unfold matchM
  rw [if_neg (by omega)]
  have h := fold_glob path p (fit0 path.length) (fit0_len _) path.length (Nat.le_refl _)
  have e : (fitsM path p).getD path.length false = true ↔ (fitsM path p)[path.length]? = some true := by
    rw [List.getD_eq_getElem?_getD]
    cases (fitsM path p)[path.length]? with
    | none => simp
    | some b => simp
  rw [e]
  unfold fitsM
  rw [h]
  constructor
  · rintro ⟨j, h1, h2, h3⟩
    cases j with
    | zero => simpa using h3
    | succ j => simp [fit0, List.getElem?_replicate] at h2
  · intro hg
    exact ⟨0, Nat.zero_le _, by simp [fit0], by simpa using hg⟩
end Go.Proofs.YtmomildkopainaaDoor
