/-
  PLAIN MATHEMATICS of the laws on order: rows of one order, left and right turned round, what is merged goes against nothing.
-/
import Derived.Test.YtccdmoogjcgcfaaOrH
namespace Go.Proofs.Ytccdmoogjcgcfaa

theorem find_only {p : Bs → Bool} {rest : List Bs} {x : Bs} (hx : x ∈ rest) (hp : p x = true) (ho : ∀ y ∈ rest, p y = true → y = x) : rest.find? p = some x := by
  cases h : rest.find? p with
  | none =>
    have := List.find?_eq_none.1 h x hx
    rw [hp] at this
    exact absurd rfl this
  | some y => rw [ho y (List.mem_of_find?_eq_some h) (List.find?_some h)]
/-- names of one order are merged as that order -/
theorem mergeGo_total {bef : Bs → Bs → Bool} : ∀ (s rest : List Bs), rest.Perm s → s.Nodup → s.Pairwise (fun a b => bef a b = true ∧ bef b a = false) → mergeGo bef rest.length rest = some s
  | [], rest, hp, _, _ => by
    rw [List.Perm.eq_nil hp]
    rfl
  | x :: s, rest, hp, hn, ht => by
    have hl := hp.length_eq
    rw [List.length_cons] at hl
    obtain ⟨hn1, hn2⟩ := List.nodup_cons.1 hn
    obtain ⟨ht1, ht2⟩ := List.pairwise_cons.1 ht
    have hx : x ∈ rest := hp.mem_iff.2 (List.mem_cons_self ..)
    have hf : rest.find? (free bef rest) = some x := by
      refine find_only hx ?_ fun y hy hfy => ?_
      · unfold free
        refine List.all_eq_true.2 fun y hy => ?_
        rcases List.mem_cons.1 (hp.mem_iff.1 hy) with rfl | h
        · simp
        · simp [(ht1 y h).2]
      · rcases List.mem_cons.1 (hp.mem_iff.1 hy) with rfl | h
        · rfl
        · unfold free at hfy
          have h1 := List.all_eq_true.1 hfy x hx
          rw [(ht1 y h).1] at h1
          have h2 : x = y := by simpa using h1
          exact h2.symm
    rw [hl, mergeGo_some hf]
    have he : (rest.erase x).Perm s := by
      have h1 := (List.perm_cons_erase hx).symm.trans hp
      exact (List.perm_cons x).1 h1
    have h3 := mergeGo_total s (rest.erase x) he hn2 ht2
    rw [he.length_eq] at h3
    rw [h3]
    rfl
/-- names of which nothing is said stand as they are handed -/
theorem mergeGo_free {bef : Bs → Bs → Bool} (h : ∀ a b, bef a b = false) : ∀ rest : List Bs, mergeGo bef rest.length rest = some rest
  | [] => rfl
  | x :: rest => by
    have hf : (x :: rest).find? (free bef (x :: rest)) = some x := by
      rw [List.find?_cons]
      have : free bef (x :: rest) x = true := List.all_eq_true.2 fun y _ => by simp [h]
      rw [this]
    rw [List.length_cons, mergeGo_some hf]
    have e : (x :: rest).erase x = rest := by simp
    rw [e, mergeGo_free h rest]
    rfl
/-- left and right turned round tell the same -/
theorem aheadM_turn (lb ll lr : List Bs) (x y : Bs) : aheadM lb ll lr x y = aheadM lb lr ll x y := by
  unfold aheadM
  rcases sayM_cases lb x y with h | h | h <;> rcases sayM_cases ll x y with h' | h' | h' <;> rcases sayM_cases lr x y with h'' | h'' | h'' <;> rw [h, h', h''] <;> rfl
theorem befN_turn (lb ll lr : List Bs) : befN lb ll lr = befN lb lr ll := by
  funext x y
  unfold befN
  rw [aheadM_turn]
theorem mergeAll_turn (lb ll lr l : List Bs) : mergeAll lb ll lr l = mergeAll lb lr ll l := by
  unfold mergeAll
  rw [befN_turn]
theorem okAll_turn (lb ll lr l : List Bs) : okAll lb ll lr l ↔ okAll lb lr ll l := by
  unfold okAll okP
  constructor
  · intro h i j h1 h2
    rw [aheadM_turn]
    exact h i j h1 h2
  · intro h i j h1 h2
    rw [aheadM_turn]
    exact h i j h1 h2
theorem onceAll_turn (lb ll lr l : List Bs) : onceAll lb ll lr l = onceAll lb lr ll l := by
  unfold onceAll
  cases onceB lb <;> cases onceB ll <;> cases onceB lr <;> rfl
/-- of two names of a row the first is said to stand ahead -/
theorem sayM_at {l : List Bs} (hn : l.Nodup) {i j : Nat} (hij : i < j) (hj : j < l.length) : sayM l (l[i]'(by omega)) l[j] = -1 := by
  unfold sayM
  rw [lastIx_at hn (by omega), lastIx_at hn hj]
  simp
  omega
/-- a row is merged as it stands, where just its own order is told -/
theorem mergeAll_own {lb ll lr l : List Bs} (hn : l.Nodup) (h : ∀ i j (hij : i < j) (hj : j < l.length), (aheadM lb ll lr (l[i]'(by omega)) l[j]).1 = -1) : mergeAll lb ll lr l = some l := by
  unfold mergeAll
  have h1 := mergeGo_total (bef := befN lb ll lr) l (sortL l) (sortL_perm l) hn (List.pairwise_iff_getElem.2 fun i j hi hj hij => by
    have h2 := h i j hij hj
    unfold befN
    refine ⟨decide_eq_true h2, decide_eq_false ?_⟩
    rw [aheadM_anti, h2]
    exact fun h => absurd (show (1 : Int) = -1 from h) (by decide))
  rw [sortL_len] at h1
  exact h1
theorem aheadM_same {l : List Bs} (hn : l.Nodup) {i j : Nat} (hij : i < j) (hj : j < l.length) : aheadM l l l (l[i]'(by omega)) l[j] = (-1, true) := by
  unfold aheadM
  rw [sayM_at hn hij hj]
  rfl
theorem sayM_nil (x y : Bs) : sayM [] x y = 0 := rfl
theorem aheadM_left {l : List Bs} (hn : l.Nodup) {i j : Nat} (hij : i < j) (hj : j < l.length) : aheadM [] l [] (l[i]'(by omega)) l[j] = (-1, true) := by
  unfold aheadM
  rw [sayM_at hn hij hj]
  rfl
theorem aheadM_base {lb l : List Bs} (hn : l.Nodup) {i j : Nat} (hij : i < j) (hj : j < l.length) : aheadM lb l lb (l[i]'(by omega)) l[j] = (-1, true) := by
  unfold aheadM
  rw [sayM_at hn hij hj]
  rcases sayM_cases lb (l[i]'(by omega)) l[j] with h | h | h <;> rw [h] <;> rfl
theorem okAll_of {lb ll lr l : List Bs} (h : ∀ i j (hij : i < j) (hj : j < l.length), (aheadM lb ll lr (l[i]'(by omega)) l[j]).2 = true) : okAll lb ll lr l := fun i j hij hj => by
  unfold okP
  have e1 : l.getD i [] = l[i]'(by omega) := by simp [List.getD, show i < l.length by omega]
  have e2 : l.getD j [] = l[j] := by simp [List.getD, hj]
  rw [e1, e2]
  exact h i j hij hj
end Go.Proofs.Ytccdmoogjcgcfaa
