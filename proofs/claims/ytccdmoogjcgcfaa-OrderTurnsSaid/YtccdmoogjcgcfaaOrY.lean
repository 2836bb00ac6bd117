/-
  PLAIN MATHEMATICS of order.Merge: what the counts tell of the names that are left.
-/
import Derived.Test.YtccdmoogjcgcfaaOrN
import Derived.Test.YtccdmoogjcgcfaaOrW
import Derived.Test.YtccdmoogjcgcfaaOrX
import Derived.Test.YtccdmoogjcgcfaaOrZ
namespace Go.Proofs.Ytccdmoogjcgcfaa
open Go.RowKit

/-- stands x ahead of y? -/
def befN (lb ll lr : List Bs) (x y : Bs) : Bool := decide ((aheadM lb ll lr x y).1 = -1)
theorem nodup_ix {l : List Bs} (hn : l.Nodup) {i j : Nat} (hi : i < l.length) (hj : j < l.length) (h : l[i] = l[j]) : i = j := by
  rw [← List.Nodup.idxOf_getElem hn i hi, ← List.Nodup.idxOf_getElem hn j hj, h]
theorem lastIx_at {l : List Bs} (hn : l.Nodup) {i : Nat} (hi : i < l.length) : lastIx l[i] l = some i := by
  unfold lastIx
  cases h : lastTo l[i] l l.length with
  | none =>
    exact absurd (List.getElem?_eq_getElem hi) (lastTo_none.1 h i hi)
  | some j =>
    obtain ⟨h1, h2⟩ := lastTo_lt h
    rw [List.getElem?_eq_getElem h1] at h2
    rw [nodup_ix hn h1 hi (Option.some.inj h2)]
theorem lastIx_mem {l : List Bs} {x : Bs} (h : x ∈ l) : ∃ i, ∃ hi : i < l.length, lastIx x l = some i ∧ l[i] = x := by
  cases h1 : lastIx x l with
  | none =>
    obtain ⟨i, hi, hx⟩ := List.getElem_of_mem h
    exact absurd (by rw [List.getElem?_eq_getElem hi, hx]) (lastTo_none.1 h1 i hi)
  | some j =>
    obtain ⟨h2, h3⟩ := lastTo_lt h1
    refine ⟨j, h2, rfl, ?_⟩
    rw [List.getElem?_eq_getElem h2] at h3
    exact Option.some.inj h3
theorem names_range (l : List Bs) : l = (List.range l.length).map fun j => l.getD j [] := by
  apply List.ext_getElem
  · simp
  · intro i h1 h2
    simp [List.getD, h1]
/-- so many stand ahead of a name at first -/
theorem fore_wcnt {lb ll lr l : List Bs} (hn : l.Nodup) {k : Nat} (hk : k < l.length) : (fore l.length (befM lb ll lr l) l.length 0 k).length = wcnt (befN lb ll lr) l l[k] := by
  have e : wcnt (befN lb ll lr) l l[k] = (((List.range l.length).map fun j => l.getD j []).filter fun y => !(y == l[k]) && befN lb ll lr y l[k]).length := by
    rw [← names_range]; rfl
  rw [e, List.filter_map, List.length_map]
  unfold fore
  congr 1
  refine List.filter_congr fun j hj => ?_
  have hj' := List.mem_range.1 hj
  rw [proc_all hk hj']
  have e1 : l.getD j [] = l[j] := by simp [List.getD, hj']
  have e2 : l.getD k [] = l[k] := by simp [List.getD, hk]
  have e3 : (l[j] == l[k]) = decide (j = k) := by
    rw [Bool.eq_iff_iff, beq_iff_eq, decide_eq_true_iff]
    exact ⟨nodup_ix hn hj' hk, fun h => by subst h; rfl⟩
  unfold befM befN
  simp only [Function.comp, e1, e2, e3]
  congr 1
  rw [Bool.eq_iff_iff]
  simp
  omega
theorem aft_mem {n : Nat} {bef : Nat → Nat → Bool} {k j : Nat} (hk : k < n) : j ∈ aft n bef n 0 k ↔ j < n ∧ k ≠ j ∧ bef k j = true := by
  unfold aft
  rw [List.mem_filter, List.mem_range]
  constructor
  · rintro ⟨h1, h2⟩
    rw [proc_all hk h1] at h2
    simp at h2
    exact ⟨h1, h2.1, h2.2⟩
  · rintro ⟨h1, h2, h3⟩
    refine ⟨h1, ?_⟩
    rw [proc_all hk h1]
    simp [h2, h3]
theorem aft_nodup (n : Nat) (bef : Nat → Nat → Bool) (J I k : Nat) : (aft n bef J I k).Nodup := List.Pairwise.filter _ List.nodup_range
theorem aft_lt {n : Nat} {bef : Nat → Nat → Bool} {J I k j : Nat} (h : j ∈ aft n bef J I k) : j < n := List.mem_range.1 (List.mem_filter.1 h).1
/-- the counts when the first p rows behind a name were told of it -/
def decW (W : Nat → Int) (R : List Nat) (p : Nat) (j : Nat) : Int := if j ∈ R.take p then W j - 1 else W j
theorem decW_0 (W : Nat → Int) (R : List Nat) : decW W R 0 = W := by funext j; simp [decW]
theorem decW_step {W : Nat → Int} {R : List Nat} (hn : R.Nodup) {p : Nat} (hp : p < R.length) : (fun j => if j = R[p] then decW W R p R[p] - 1 else decW W R p j) = decW W R (p + 1) := by
  have hmem : R[p] ∉ R.take p := by
    intro h
    obtain ⟨i, hi, hx⟩ := List.getElem_of_mem h
    rw [List.length_take] at hi
    rw [List.getElem_take] at hx
    have := List.Nodup.idxOf_getElem hn i (by omega)
    rw [hx, List.Nodup.idxOf_getElem hn p hp] at this
    omega
  funext j
  unfold decW
  have e : j ∈ R.take (p + 1) ↔ j ∈ R.take p ∨ j = R[p] := by rw [List.take_succ_eq_append_getElem hp, List.mem_append, List.mem_singleton]
  by_cases hj : j = R[p]
  · subst hj
    rw [if_pos rfl, if_neg hmem, if_pos (e.2 (.inr rfl))]
  · rw [if_neg hj]
    by_cases h : j ∈ R.take p
    · rw [if_pos h, if_pos (e.2 (.inl h))]
    · rw [if_neg h, if_neg (fun h1 => (e.1 h1).elim h hj)]

/-- the counts tell how many of those that are left stand ahead of each -/
def Tells (lb ll lr l rest : List Bs) (W : Nat → Int) : Prop := ∀ i (h : i < l.length), l[i] ∈ rest → W i = (wcnt (befN lb ll lr) rest l[i] : Int)
theorem tells_first {lb ll lr l s : List Bs} (hn : l.Nodup) (hp : s.Perm l) : Tells lb ll lr l s fun k => ((fore l.length (befM lb ll lr l) l.length 0 k).length : Int) := fun i hi _ => by
  show ((fore l.length (befM lb ll lr l) l.length 0 i).length : Int) = _
  rw [fore_wcnt hn hi, wcnt_perm hp]
theorem tells_next {lb ll lr l rest : List Bs} {W : Nat → Int} (_hn : l.Nodup) (hr : rest.Nodup) (h : Tells lb ll lr l rest W) {k : Nat} (hk : k < l.length) (hm : l[k] ∈ rest) :
    Tells lb ll lr l (rest.erase l[k]) (decW W (aft l.length (befM lb ll lr l) l.length 0 k) (aft l.length (befM lb ll lr l) l.length 0 k).length) := fun i hi hmem => by
  have hne : l[k] ≠ l[i] := fun e => by
    rw [← e] at hmem
    exact (List.Nodup.not_mem_erase hr) hmem
  have h1 := h i hi (List.mem_of_mem_erase hmem)
  have h2 := wcnt_erase (bef := befN lb ll lr) hm hne
  have hki : k ≠ i := fun e => hne (by subst e; rfl)
  have e1 : l.getD k [] = l[k] := by simp [List.getD, hk]
  have e2 : l.getD i [] = l[i] := by simp [List.getD, hi]
  have e3 : befM lb ll lr l k i = befN lb ll lr l[k] l[i] := by unfold befM befN; rw [e1, e2]
  unfold decW
  rw [List.take_length]
  by_cases hb : befN lb ll lr l[k] l[i] = true
  · rw [if_pos hb] at h2
    rw [if_pos ((aft_mem hk).2 ⟨hi, hki, by rw [e3]; exact hb⟩), h1, h2]
    omega
  · rw [if_neg hb] at h2
    rw [if_neg (fun h => hb (by rw [← e3]; exact ((aft_mem hk).1 h).2.2)), h1, h2]
    omega
/-- is nothing left ahead of it, as the counts tell? -/
def zeroB (l : List Bs) (W : Nat → Int) (x : Bs) : Bool := W ((lastIx x l).getD 0) == 0
theorem zero_free {lb ll lr l rest : List Bs} {W : Nat → Int} (hs : ∀ x ∈ rest, x ∈ l) (h : Tells lb ll lr l rest W) {x : Bs} (hx : x ∈ rest) : zeroB l W x = free (befN lb ll lr) rest x := by
  obtain ⟨i, hi, h1, h2⟩ := lastIx_mem (hs x hx)
  subst h2
  unfold zeroB
  rw [h1, Option.getD_some, h i hi hx, wcnt_free, Bool.eq_iff_iff, beq_iff_eq, decide_eq_true_iff]
  omega
/-- what the first place of a yes tells -/
theorem firstIx_cases {p q : Bs → Bool} {rest : List Bs} (h : ∀ x ∈ rest, p x = q x) : (firstIx p rest = -1 ∧ rest.find? q = none) ∨ ∃ k, ∃ hk : k < rest.length, firstIx p rest = (k : Int) ∧ rest.find? q = some rest[k] := by
  unfold firstIx
  cases hf : rest.findIdx? p with
  | none =>
    refine .inl ⟨rfl, List.find?_eq_none.2 fun x hx => ?_⟩
    rw [← h x hx, List.findIdx?_eq_none_iff.1 hf x hx]
    simp
  | some k =>
    obtain ⟨hk, h1, h2⟩ := List.findIdx?_eq_some_iff_getElem.1 hf
    refine .inr ⟨k, hk, rfl, List.find?_eq_some_iff_getElem.2 ⟨by rw [← h _ (List.getElem_mem hk)]; exact h1, k, hk, rfl, fun j hj => ?_⟩⟩
    rw [← h _ (List.getElem_mem (by omega))]
    have := h2 j hj
    simpa using this
theorem erase_at {rest : List Bs} (hn : rest.Nodup) {k : Nat} (hk : k < rest.length) : rest.take k ++ rest.drop (k + 1) = rest.erase rest[k] := by
  rw [← List.eraseIdx_eq_take_drop_succ]
  rw [List.erase_eq_eraseIdx]
  have h2 : List.idxOf? rest[k] rest = some k := by
    unfold List.idxOf?
    rw [List.findIdx?_eq_some_iff_getElem]
    refine ⟨hk, by simp, fun j hj h => ?_⟩
    have := nodup_ix hn (by omega) hk (beq_iff_eq.1 h)
    omega
  rw [h2]
/-- what Merge answers -/
def mergeAll (lb ll lr l : List Bs) : Option (List Bs) := mergeGo (befN lb ll lr) l.length (sortL l)
theorem sortL_perm (l : List Bs) : (sortL l).Perm l := List.mergeSort_perm ..
theorem sortL_nodup {l : List Bs} (h : l.Nodup) : (sortL l).Nodup := (sortL_perm l).nodup_iff.2 h
end Go.Proofs.Ytccdmoogjcgcfaa
