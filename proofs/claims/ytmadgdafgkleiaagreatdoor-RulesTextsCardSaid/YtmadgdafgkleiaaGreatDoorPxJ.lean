/-
  MATHEMATICS: a node's place taken by another one.
-/
import Derived.Test.YtmadgdafgkleiaaGreatDoorPx1
namespace Go.Proofs.YtmadgdafgkleiaaGreatDoor
open Go.RowKit
theorem digitVal_lt {b : UInt8} {d : Nat} (h : Lib.digitVal b = some d) : d < 10 ∧ b.toNat = d + 48 := by
  unfold Lib.digitVal at h
  split at h
  · have := Option.some.inj h; omega
  · cases h
theorem decFrom_range : ∀ (l : Bs) (a n : Nat), Lib.decFrom a l = some n → a * 10 ^ l.length ≤ n ∧ n < (a + 1) * 10 ^ l.length
  | [], a, n, h => by
    have := Option.some.inj h
    subst this
    simp
  | b :: r, a, n, h => by
    unfold Lib.decFrom at h
    split at h
    · rename_i d hd
      have h1 := decFrom_range r _ n h
      have h2 := (digitVal_lt hd).1
      have e : (10 : Nat) ^ (b :: r).length = 10 * 10 ^ r.length := by rw [List.length_cons, Nat.pow_succ, Nat.mul_comm]
      rw [e, ← Nat.mul_assoc, ← Nat.mul_assoc]
      refine ⟨Nat.le_trans (Nat.mul_le_mul_right _ (by omega)) h1.1, Nat.lt_of_lt_of_le h1.2 (Nat.mul_le_mul_right _ (by omega))⟩
    · cases h
theorem decFrom_one : ∀ (l l' : Bs) (a a' n : Nat), l.length = l'.length → Lib.decFrom a l = some n → Lib.decFrom a' l' = some n → a = a' ∧ l = l'
  | [], [], a, a', n, _, h, h' => ⟨(Option.some.inj h).trans (Option.some.inj h').symm, rfl⟩
  | [], _ :: _, _, _, _, hl, _, _ => by simp at hl
  | _ :: _, [], _, _, _, hl, _, _ => by simp at hl
  | b :: r, b' :: r', a, a', n, hl, h, h' => by
    unfold Lib.decFrom at h h'
    split at h
    · split at h'
      · rename_i d hd _ d' hd'
        obtain ⟨e1, e2⟩ := decFrom_one r r' _ _ n (by simpa using hl) h h'
        have h1 := digitVal_lt hd
        have h2 := digitVal_lt hd'
        refine ⟨by omega, ?_⟩
        rw [e2, show b = b' from UInt8.toNat_inj.1 (by omega)]
      · cases h'
    · cases h
theorem pow_low {l l' : Nat} {d d' n : Nat} (h : l < l') (h1 : n < (d + 1) * 10 ^ l) (h2 : d' * 10 ^ l' ≤ n) (hd : d < 10) (hd' : 1 ≤ d') : False := by
  have h3 : 10 ^ (l + 1) ≤ 10 ^ l' := Nat.pow_le_pow_right (by omega) (by omega)
  have h4 : (d + 1) * 10 ^ l ≤ 10 * 10 ^ l := Nat.mul_le_mul_right _ (by omega)
  have h5 : 10 ^ l' ≤ d' * 10 ^ l' := Nat.le_mul_of_pos_left _ (by omega)
  rw [Nat.pow_succ, Nat.mul_comm] at h3
  omega
theorem index_one {s s' : Bs} {n : Nat} (h : indexM s = some n) (h' : indexM s' = some n) : s = s' := by
  unfold indexM at h h'
  split at h
  · cases h
  · split at h'
    · cases h'
    · rename_i c1 c2
      unfold Lib.decNat at h h'
      split at h
      · cases h
      · split at h'
        · cases h'
        · by_cases hl : s.length = s'.length
          · exact (decFrom_one s s' 0 0 n hl h h').2
          · exfalso
            have key : ∀ (x y : Bs), x.length < y.length → ¬ (y.head? = some 48 ∧ y ≠ [48]) → x ≠ [] → Lib.decFrom 0 x = some n → Lib.decFrom 0 y = some n → False := by
              intro x y hxy hy0 hx0 hx hy
              cases x with
              | nil => exact hx0 rfl
              | cons b r =>
                cases y with
                | nil => simp at hxy
                | cons b' r' =>
                  unfold Lib.decFrom at hx hy
                  split at hx
                  · split at hy
                    · rename_i d hd _ d' hd'
                      have h1 := decFrom_range r _ n hx
                      have h2 := decFrom_range r' _ n hy
                      have h3 := digitVal_lt hd
                      have h4 := digitVal_lt hd'
                      simp only [Nat.zero_mul, Nat.zero_add] at h1 h2
                      refine pow_low (l := r.length) (l' := r'.length) (by simpa using hxy) h1.2 h2.1 h3.1 ?_
                      by_cases e : d' = 0
                      · exfalso
                        refine hy0 ⟨?_, ?_⟩
                        · simp only [List.head?_cons, Option.some.injEq]
                          exact UInt8.toNat_inj.1 (by show b'.toNat = 48; omega)
                        · rintro e2
                          have : r' = [] := (List.cons.inj e2).2
                          rw [this] at hxy
                          simp at hxy
                      · omega
                    · cases hy
                  · cases hx
            have a1 : ¬ (s.head? = some 48 ∧ s ≠ [48]) := fun e => c1 (.inr (.inr e))
            have a2 : ¬ (s'.head? = some 48 ∧ s' ≠ [48]) := fun e => c2 (.inr (.inr e))
            have b1 : s ≠ [] := fun e => c1 (.inl e)
            have b2 : s' ≠ [] := fun e => c2 (.inl e)
            rcases Nat.lt_or_gt_of_ne hl with hl | hl
            · exact key s s' hl a2 b1 h h'
            · exact key s' s hl a1 b2 h' h
def psetM : List Bs → Vl → Vl → Vl
  | [], _, w => w
  | s :: r, v, w => match v.is[(belowM v s).1.toNat]? with
    | some z => .mk v.k v.t v.ks (v.is.set (belowM v s).1.toNat (psetM r z w))
    | none => v
end Go.Proofs.YtmadgdafgkleiaaGreatDoor

