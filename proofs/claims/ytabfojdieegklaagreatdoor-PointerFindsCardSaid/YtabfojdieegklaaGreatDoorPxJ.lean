/-
  MATHEMATICS: a node's place taken by another one.
-/
import Derived.Test.YtabfojdieegklaaGreatDoorPx1
namespace Go.Proofs.YtabfojdieegklaaGreatDoor
open Go.RowKit

theorem digitVal_lt {b : UInt8} {d : Nat} (h : Lib.digitVal b = some d) : d < 10 ∧ b.toNat = d + 48 := by
  unfold Lib.digitVal at h
  split at h
  · have := Option.some.inj h; omega
  · cases h
theorem decFrom_range : ∀ (l : Bs) (a n : Nat), Lib.decFrom a l = some n → a * 10 ^ l.length ≤ n ∧ n < (a + 1) * 10 ^ l.length
  | [], a, n, h => by
    have := Option.some.inj h
    subst this
    simp
  | b :: r, a, n, h => by
    unfold Lib.decFrom at h
    split at h
    · rename_i d hd
      have h1 := decFrom_range r _ n h
      have h2 := (digitVal_lt hd).1
      have e : (10 : Nat) ^ (b :: r).length = 10 * 10 ^ r.length := by rw [List.length_cons, Nat.pow_succ, Nat.mul_comm]
      rw [e, ← Nat.mul_assoc, ← Nat.mul_assoc]
      refine ⟨Nat.le_trans (Nat.mul_le_mul_right _ (by omega)) h1.1, Nat.lt_of_lt_of_le h1.2 (Nat.mul_le_mul_right _ (by omega))⟩
    · cases h
theorem decFrom_one : ∀ (l l' : Bs) (a a' n : Nat), l.length = l'.length → Lib.decFrom a l = some n → Lib.decFrom a' l' = some n → a = a' ∧ l = l'
  | [], [], a, a', n, _, h, h' => ⟨(Option.some.inj h).trans (Option.some.inj h').symm, rfl⟩
  | [], _ :: _, _, _, _, hl, _, _ => by simp at hl
  | _ :: _, [], _, _, _, hl, _, _ => by simp at hl
  | b :: r, b' :: r', a, a', n, hl, h, h' => by
    unfold Lib.decFrom at h h'
    split at h
    · split at h'
      · rename_i d hd _ d' hd'
        obtain ⟨e1, e2⟩ := decFrom_one r r' _ _ n (by simpa using hl) h h'
        have h1 := digitVal_lt hd
        have h2 := digitVal_lt hd'
        refine ⟨by omega, ?_⟩
        rw [e2, show b = b' from UInt8.toNat_inj.1 (by omega)]
      · cases h'
    · cases h
theorem pow_low {l l' : Nat} {d d' n : Nat} (h : l < l') (h1 : n < (d + 1) * 10 ^ l) (h2 : d' * 10 ^ l' ≤ n) (hd : d < 10) (hd' : 1 ≤ d') : False := by
  have h3 : 10 ^ (l + 1) ≤ 10 ^ l' := Nat.pow_le_pow_right (by omega) (by omega)
  have h4 : (d + 1) * 10 ^ l ≤ 10 * 10 ^ l := Nat.mul_le_mul_right _ (by omega)
  have h5 : 10 ^ l' ≤ d' * 10 ^ l' := Nat.le_mul_of_pos_left _ (by omega)
  rw [Nat.pow_succ, Nat.mul_comm] at h3
  omega
theorem index_one {s s' : Bs} {n : Nat} (h : indexM s = some n) (h' : indexM s' = some n) : s = s' := by
  unfold indexM at h h'
  split at h
  · cases h
  · split at h'
    · cases h'
    · rename_i c1 c2
      unfold Lib.decNat at h h'
      split at h
      · cases h
      · split at h'
        · cases h'
        · by_cases hl : s.length = s'.length
          · exact (decFrom_one s s' 0 0 n hl h h').2
          · exfalso
            have key : ∀ (x y : Bs), x.length < y.length → ¬ (y.head? = some 48 ∧ y ≠ [48]) → x ≠ [] → Lib.decFrom 0 x = some n → Lib.decFrom 0 y = some n → False := by
              intro x y hxy hy0 hx0 hx hy
              cases x with
              | nil => exact hx0 rfl
              | cons b r =>
                cases y with
                | nil => simp at hxy
                | cons b' r' =>
                  unfold Lib.decFrom at hx hy
                  split at hx
                  · split at hy
                    · rename_i d hd _ d' hd'
                      have h1 := decFrom_range r _ n hx
                      have h2 := decFrom_range r' _ n hy
                      have h3 := digitVal_lt hd
                      have h4 := digitVal_lt hd'
                      simp only [Nat.zero_mul, Nat.zero_add] at h1 h2
                      refine pow_low (l := r.length) (l' := r'.length) (by simpa using hxy) h1.2 h2.1 h3.1 ?_
                      by_cases e : d' = 0
                      · exfalso
                        refine hy0 ⟨?_, ?_⟩
                        · simp only [List.head?_cons, Option.some.injEq]
                          exact UInt8.toNat_inj.1 (by show b'.toNat = 48; omega)
                        · rintro e2
                          have : r' = [] := (List.cons.inj e2).2
                          rw [this] at hxy
                          simp at hxy
                      · omega
                    · cases hy
                  · cases hx
            have a1 : ¬ (s.head? = some 48 ∧ s ≠ [48]) := fun e => c1 (.inr (.inr e))
            have a2 : ¬ (s'.head? = some 48 ∧ s' ≠ [48]) := fun e => c2 (.inr (.inr e))
            have b1 : s ≠ [] := fun e => c1 (.inl e)
            have b2 : s' ≠ [] := fun e => c2 (.inl e)
            rcases Nat.lt_or_gt_of_ne hl with hl | hl
            · exact key s s' hl a2 b1 h h'
            · exact key s' s hl a1 b2 h' h
theorem ixI_one {l : List Bs} {a b : Bs} (h : 0 ≤ ixI l a) (e : ixI l a = ixI l b) : a = b := by
  unfold ixI at h e
  cases ha : ixOf l a with
  | none => rw [ha] at h; simp at h
  | some i =>
    cases hb : ixOf l b with
    | none => rw [ha, hb] at e; simp at e
    | some j =>
      rw [ha, hb] at e
      simp only at e
      have hij : i = j := by omega
      subst hij
      obtain ⟨h1, h2, _⟩ := ixOf_some ha
      obtain ⟨h3, h4, _⟩ := ixOf_some hb
      rw [← h2, h4]
/-- a tree with another one in a node's place -/
def psetM : List Bs → Vl → Vl → Vl
  | [], _, w => w
  | s :: r, v, w => match v.is[(belowM v s).1.toNat]? with
    | some z => .mk v.k v.t v.ks (v.is.set (belowM v s).1.toNat (psetM r z w))
    | none => v
theorem is_mkJ (k : Int) (t : Bs) (ks : List Bs) (is : List Vl) : (Vl.mk k t ks is).is = is := rfl
theorem k_mkJ (k : Int) (t : Bs) (ks : List Bs) (is : List Vl) : (Vl.mk k t ks is).k = k := rfl
theorem t_mkJ (k : Int) (t : Bs) (ks : List Bs) (is : List Vl) : (Vl.mk k t ks is).t = t := rfl
theorem ks_mkJ (k : Int) (t : Bs) (ks : List Bs) (is : List Vl) : (Vl.mk k t ks is).ks = ks := rfl
theorem below_set (v : Vl) (i : Nat) (z : Vl) (s : Bs) : belowM (.mk v.k v.t v.ks (v.is.set i z)) s = belowM v s := by
  unfold belowM
  obtain ⟨k, t, ks, is⟩ := v
  simp only [Vl.k, Vl.ks, Vl.is, List.length_set]
  rfl
theorem pget_cons {s : Bs} {r : List Bs} {v old : Vl} (h : pgetM (s :: r) v = some old) : (belowM v s).2 = true ∧ ∃ z, v.is[(belowM v s).1.toNat]? = some z ∧ pgetM r z = some old := by
  rw [pgetM] at h
  split at h
  · rename_i hb
    refine ⟨hb, ?_⟩
    split at h
    · rename_i z hz; exact ⟨z, hz, h⟩
    · cases h
  · cases h
theorem pget_pset (w : Vl) : ∀ (p : List Bs) (v old : Vl), pgetM p v = some old → pgetM p (psetM p v w) = some w
  | [], _, _, _ => rfl
  | s :: r, v, old, h => by
    obtain ⟨hb, z, hz, h2⟩ := pget_cons h
    have hi : (belowM v s).1.toNat < v.is.length := by
      rcases Nat.lt_or_ge (belowM v s).1.toNat v.is.length with h | h
      · exact h
      · rw [List.getElem?_eq_none h] at hz; cases hz
    rw [psetM, hz]
    simp only
    rw [pgetM, below_set, if_pos hb]
    rw [is_mkJ]
    rw [List.getElem?_set_self hi]
    exact pget_pset w r z old h2
theorem pset_pset (w : Vl) : ∀ (p : List Bs) (v old : Vl), pgetM p v = some old → psetM p (psetM p v w) old = v
  | [], v, old, h => (Option.some.inj h).symm
  | s :: r, v, old, h => by
    obtain ⟨hb, z, hz, h2⟩ := pget_cons h
    have hi : (belowM v s).1.toNat < v.is.length := by
      rcases Nat.lt_or_ge (belowM v s).1.toNat v.is.length with h | h
      · exact h
      · rw [List.getElem?_eq_none h] at hz; cases hz
    have ih := pset_pset w r z old h2
    conv => lhs; arg 2; rw [psetM, hz]
    simp only
    rw [psetM, below_set]
    rw [is_mkJ]
    rw [List.getElem?_set_self hi]
    simp only [k_mkJ, t_mkJ, ks_mkJ]
    rw [ih, List.set_set]
    have e : v.is.set (belowM v s).1.toNat z = v.is := by
      have h3 := (List.getElem?_eq_some_iff.1 hz).2
      rw [← h3]; exact List.set_getElem_self hi
    rw [e]
    cases v; rfl
/-- two steps that lead to one item are one -/
theorem below_one {v : Vl} {s s' : Bs} (h : (belowM v s).2 = true) (h' : (belowM v s').2 = true) (e : (belowM v s).1.toNat = (belowM v s').1.toNat) : s = s' := by
  unfold belowM at h h' e
  by_cases h6 : v.k = 6
  · rw [if_pos h6] at h h' e e
    have h1 : 0 ≤ ixI v.ks s := of_decide_eq_true h
    have h2 : 0 ≤ ixI v.ks s' := of_decide_eq_true h'
    simp only at e
    have e2 : ixI v.ks s = ixI v.ks s' := by omega
    exact ixI_one h1 e2
  · rw [if_neg h6] at h h' e e
    by_cases h5 : v.k = 5
    · rw [if_pos h5] at h h' e e
      simp only [Bool.and_eq_true] at h h'
      obtain ⟨n, hn⟩ := Option.isSome_iff_exists.1 h.1
      obtain ⟨m, hm⟩ := Option.isSome_iff_exists.1 h'.1
      rw [hn, hm] at e
      simp only [Option.getD_some, Int.toNat_natCast] at e
      subst e
      exact index_one hn hm
    · rw [if_neg h5] at h
      cases h
/-- what does not lie at, above or beneath the place stays -/
theorem pget_other (w : Vl) : ∀ (i : Nat) (p q : List Bs) (v old : Vl) (hp : i < p.length) (hq : i < q.length), pgetM p v = some old → p[i] ≠ q[i] → pgetM q (psetM p v w) = pgetM q v
  | i, [], _, _, _, hp, _, _, _ => absurd hp (Nat.not_lt_zero _)
  | i, _ :: _, [], _, _, _, hq, _, _ => absurd hq (Nat.not_lt_zero _)
  | i, s :: r, s' :: r', v, old, hp, hq, h, hne => by
    obtain ⟨hb, z, hz, h2⟩ := pget_cons h
    have hi : (belowM v s).1.toNat < v.is.length := by
      rcases Nat.lt_or_ge (belowM v s).1.toNat v.is.length with h | h
      · exact h
      · rw [List.getElem?_eq_none h] at hz; cases hz
    rw [psetM, hz]
    simp only
    rw [pgetM, pgetM, below_set]
    by_cases hb' : (belowM v s').2 = true
    · rw [if_pos hb', if_pos hb']
      rw [is_mkJ]
      by_cases e : (belowM v s).1.toNat = (belowM v s').1.toNat
      · have hs := below_one hb hb' e
        subst hs
        cases i with
        | zero => exact absurd rfl hne
        | succ i =>
          rw [List.getElem?_set_self hi, hz]
          exact pget_other w i r r' z old (by simpa using hp) (by simpa using hq) h2 (by simpa using hne)
      · rw [List.getElem?_set_ne e]
    · rw [if_neg hb', if_neg hb']
end Go.Proofs.YtabfojdieegklaaGreatDoor
