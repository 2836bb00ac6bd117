/-
  MATHEMATICS AND MEMORY of order.waiting: how many stand ahead of each name, and which ones behind it.
-/
import Derived.Test.YtccdmoogjcgcfaaOrA
namespace Go.Proofs.Ytccdmoogjcgcfaa
open Go.RowKit

theorem range_set {α : Type} (n k : Nat) (f : Nat → α) (v : α) : ((List.range n).map f).toArray.setIfInBounds k v = ((List.range n).map fun j => if j = k then v else f j).toArray := by
  apply Array.ext
  · simp
  · intro i h1 h2
    simp at h1 h2
    by_cases hk : k = i
    · subst hk; simp
    · rw [Array.getElem_setIfInBounds_ne (by simpa using h1) hk]
      simp
      intro h
      exact absurd h.symm hk
def Apt (v v' : Value) : Prop := ∀ k, v.ownBlock = some k → v'.ownBlock ≠ some k
structure Wst (B : Nat) (w : World) (gW gB n : Nat) (W : Nat → Int) (F : Nat → Value) (R : Nat → List Nat) : Prop where
  hw : Whole w gW 3 ((List.range n).map fun k => .int .i64 (W k)).toArray
  hb : Whole w gB 37 ((List.range n).map F).toArray
  own : ∀ k, k < n → w.ownsRow B 3 1 (F k) (R k).length ((R k).map fun j : Nat => Value.int .i64 (j : Int))
  ap : ∀ j k, j < n → k < n → j ≠ k → Apt (F j) (F k)
  l1 : gW < B
  l2 : gB < B
  ne : gW ≠ gB
  le : B ≤ w.heap.size
section
variable {B : Nat} {w : World} {gW gB n : Nat} {W : Nat → Int} {F : Nat → Value} {R : Nat → List Nat}
theorem Wst.grow {w' : World} (h : Wst B w gW gB n W F R) (hb : Below w.heap.size w w') : Wst B w' gW gB n W F R :=
  ⟨h.hw.grow hb, h.hb.grow hb, fun k hk => (h.own k hk).kept (row := none) ⟨hb.os, hb.tape, hb.output, hb.size, fun j hj _ => hb.block j hj⟩ (by cases (F k).ownBlock <;> simp), h.ap, h.l1, h.l2, h.ne, Nat.le_trans h.le hb.size⟩
theorem Wst.cellW (h : Wst B w gW gB n W F R) {k : Nat} (hk : k < n) : w.cell? ⟨gW, k, none⟩ = some (.int .i64 (W k)) := by
  rw [h.hw.at_ k]; simp [hk]
theorem Wst.cellB (h : Wst B w gW gB n W F R) {k : Nat} (hk : k < n) : w.cell? ⟨gB, k, none⟩ = some (F k) := by
  rw [h.hb.at_ k]; simp [hk]
theorem set_size' (w : World) (p : Addr) (u : Value) : (w.setCell p u).heap.size = w.heap.size := by simp [World.setCell]
theorem row_set {w : World} {B' e size n' : Nat} {v : Value} {xs : List Value} (h : w.ownsRow B' e size v n' xs) {g i : Nat} (hg : g < B') (u : Value) : (w.setCell ⟨g, i, none⟩ u).ownsRow B' e size v n' xs :=
  h.kept (row := some g) ⟨rfl, rfl, rfl, by rw [set_size']; exact Nat.le_refl _, fun k _ hne => Below.heap_setCell w ⟨g, i, none⟩ u k (fun e => hne (by rw [e]))⟩ (by
    cases hv : v.ownBlock with
    | none => exact .inl rfl
    | some b => exact .inr (fun e => by have h1 := (h.lt b hv).1; have h2 := Option.some.inj e; omega))
theorem Wst.putW (h : Wst B w gW gB n W F R) (k : Nat) (z : Int) : Wst B (w.setCell ⟨gW, k, none⟩ (.int .i64 z)) gW gB n (fun j => if j = k then z else W j) F R := by
  refine ⟨?_, h.hb.far (p := ⟨gW, k, none⟩) (fun e => h.ne e.symm) _, fun j hj => row_set (h.own j hj) h.l1 _, h.ap, h.l1, h.l2, h.ne, by rw [set_size']; exact h.le⟩
  have h1 := h.hw.put k (.int .i64 z)
  rw [range_set] at h1
  have e : (fun j => if j = k then Value.int .i64 z else .int .i64 (W j)) = fun j => .int .i64 (if j = k then z else W j) := by
    funext j
    split <;> rfl
  rw [e] at h1
  exact h1
/-- one row longer -/
theorem Wst.app (h : Wst B w gW gB n W F R) {k m : Nat} (hk : k < n) {w' : World} {v' : Value} (ho : w'.ownsRow B 3 1 v' ((R k).length + 1) (((R k).map fun j : Nat => Value.int .i64 (j : Int)) ++ [.int .i64 (m : Int)])) (hg : w.grownBy w' (F k).ownBlock) (ha : v'.ownBlock = (F k).ownBlock ∨ v'.ownBlock = some w.heap.size) :
    Wst B (w'.setCell ⟨gB, k, none⟩ v') gW gB n W (fun j => if j = k then v' else F j) (fun j => if j = k then R k ++ [m] else R j) := by
  have hne : ∀ g, g < B → some g ≠ (F k).ownBlock := fun g hgB e => by
    have := ((h.own k hk).lt g e.symm).1
    omega
  have hW' : Whole w' gW 3 ((List.range n).map fun k => .int .i64 (W k)).toArray := (hg.block gW h.hw.lt (hne gW h.l1)).trans h.hw
  have hB' : Whole w' gB 37 ((List.range n).map F).toArray := (hg.block gB h.hb.lt (hne gB h.l2)).trans h.hb
  refine ⟨hW'.far (p := ⟨gB, k, none⟩) h.ne _, ?_, fun j hj => ?_, fun i j hi hj hij q hq => ?_, h.l1, h.l2, h.ne, by rw [set_size']; exact Nat.le_trans h.le hg.size⟩
  · have h1 := hB'.put k v'
    rw [range_set] at h1
    exact h1
  · by_cases hjk : j = k
    · subst hjk
      rw [if_pos rfl, if_pos rfl]
      have := row_set ho h.l2 (i := j) v'
      rw [List.length_append, List.map_append]
      exact this
    · rw [if_neg hjk, if_neg hjk]
      refine row_set ((h.own j hj).kept hg ?_) h.l2 _
      cases hv : (F j).ownBlock with
      | none => exact .inl rfl
      | some q => exact .inr (fun e => h.ap j k hj hk hjk q hv (by rw [← e]))
  · by_cases hik : i = k
    · have hjk : j ≠ k := fun e => hij (hik.trans e.symm)
      rw [if_pos hik] at hq
      rw [if_neg hjk]
      rcases ha with ha | ha
      · rw [ha] at hq
        exact h.ap k j hk hj (fun e => hjk e.symm) q hq
      · intro hF
        have h1 := ((h.own j hj).lt q hF).2
        have h2 : some w.heap.size = some q := ha.symm.trans hq
        have := Option.some.inj h2
        omega
    · rw [if_neg hik] at hq
      by_cases hjk : j = k
      · rw [if_pos hjk]
        intro hF
        rcases ha with ha | ha
        · rw [ha] at hF
          exact h.ap i k hi hk hik q hq hF
        · have h1 := ((h.own i hi).lt q hq).2
          have h2 : some w.heap.size = some q := ha.symm.trans hF
          have := Option.some.inj h2
          omega
      · rw [if_neg hjk]
        exact h.ap i j hi hj hij q hq
end

/-! ### the pairs that were looked at -/
/-- has the pair been looked at, when row J stands at I? -/
def proc (J I a b : Nat) : Bool := decide (a ≠ b) && (decide (max a b < J) || (decide (max a b = J) && decide (min a b < I)))
theorem proc_0 (a b : Nat) : proc 0 0 a b = false := by
  unfold proc
  by_cases h : a = b
  · simp [h]
  · simp
theorem proc_next (J a b : Nat) : proc J J a b = proc (J + 1) 0 a b := by
  unfold proc
  rw [Bool.eq_iff_iff]
  simp
  omega
theorem proc_all {n a b : Nat} (ha : a < n) (hb : b < n) : proc n 0 a b = decide (a ≠ b) := by
  unfold proc
  rw [Bool.eq_iff_iff]
  simp
  omega
/-- one pair more -/
theorem proc_step {J I : Nat} (h : I < J) (a b : Nat) : proc J (I + 1) a b = (proc J I a b || (decide (a = I) && decide (b = J) || decide (a = J) && decide (b = I))) := by
  unfold proc
  rw [Bool.eq_iff_iff]
  simp
  omega
/-- of those that were looked at: which ones stand behind a name -/
def aft (n : Nat) (bef : Nat → Nat → Bool) (J I k : Nat) : List Nat := (List.range n).filter fun j => proc J I k j && bef k j
/-- .. ahead of it -/
def fore (n : Nat) (bef : Nat → Nat → Bool) (J I k : Nat) : List Nat := (List.range n).filter fun j => proc J I k j && bef j k
theorem filter_snoc {p p' : Nat → Bool} {m : Nat} : ∀ n, m < n → (∀ j, p' j = (p j || decide (j = m))) → (∀ j, p j = true → j < m) → (List.range n).filter p' = (List.range n).filter p ++ [m]
  | 0, h, _, _ => absurd h (Nat.not_lt_zero _)
  | n + 1, h, h1, h2 => by
    rw [List.range_succ, List.filter_append, List.filter_append]
    by_cases hm : m = n
    · subst hm
      have e1 : (List.range m).filter p' = (List.range m).filter p := by
        refine List.filter_congr fun j hj => ?_
        rw [h1 j]
        have : j ≠ m := by have := List.mem_range.1 hj; omega
        simp [this]
      have e2 : p m = false := by
        cases hp : p m with
        | false => rfl
        | true => have := h2 m hp; omega
      rw [e1]
      simp [h1 m, e2]
    · have e2 : p n = false := by
        cases hp : p n with
        | false => rfl
        | true => have := h2 n hp; omega
      have e3 : p' n = false := by rw [h1 n, e2]; simp; omega
      rw [filter_snoc n (by omega) h1 h2]
      simp [e2, e3]
theorem proc_lt1 {J I j : Nat} (h : I < J) (hp : proc J I I j = true) : j < J := by
  unfold proc at hp
  simp at hp
  omega
theorem proc_lt2 {J I j : Nat} (h : I < J) (hp : proc J I J j = true) : j < I := by
  unfold proc at hp
  simp at hp
  omega
section
variable {n J I : Nat} {bef : Nat → Nat → Bool}
theorem aft_same {k : Nat} (h : I < J) (h1 : bef I J = false) (h2 : bef J I = false) : aft n bef J (I + 1) k = aft n bef J I k := by
  refine List.filter_congr fun j _ => ?_
  rw [proc_step h]
  by_cases e1 : k = I ∧ j = J
  · rw [e1.1, e1.2, h1]; simp
  · by_cases e2 : k = J ∧ j = I
    · rw [e2.1, e2.2, h2]; simp
    · have : (decide (k = I) && decide (j = J) || decide (k = J) && decide (j = I)) = false := by simp; omega
      rw [this, Bool.or_false]
theorem fore_same {k : Nat} (h : I < J) (h1 : bef I J = false) (h2 : bef J I = false) : fore n bef J (I + 1) k = fore n bef J I k := by
  refine List.filter_congr fun j _ => ?_
  rw [proc_step h]
  by_cases e1 : k = I ∧ j = J
  · rw [e1.1, e1.2, h2]; simp
  · by_cases e2 : k = J ∧ j = I
    · rw [e2.1, e2.2, h1]; simp
    · have : (decide (k = I) && decide (j = J) || decide (k = J) && decide (j = I)) = false := by simp; omega
      rw [this, Bool.or_false]
/-- I stands ahead of J -/
theorem aft_1 (h : I < J) (hJ : J < n) (h1 : bef I J = true) (h2 : bef J I = false) (k : Nat) : aft n bef J (I + 1) k = if k = I then aft n bef J I I ++ [J] else aft n bef J I k := by
  by_cases hk : k = I
  · subst hk
    rw [if_pos rfl]
    refine filter_snoc n hJ (fun j => ?_) (fun j hp => ?_)
    · rw [proc_step h]
      by_cases e : j = J
      · subst e; simp [h1]
      · have : (decide (k = k) && decide (j = J) || decide (k = J) && decide (j = k)) = false := by simp; omega
        rw [this, Bool.or_false]; simp [e]
    · rw [Bool.and_eq_true] at hp
      exact proc_lt1 h hp.1
  · rw [if_neg hk]
    refine List.filter_congr fun j _ => ?_
    rw [proc_step h]
    by_cases e2 : k = J ∧ j = I
    · rw [e2.1, e2.2, h2]; simp
    · have : (decide (k = I) && decide (j = J) || decide (k = J) && decide (j = I)) = false := by simp; omega
      rw [this, Bool.or_false]
theorem fore_1 (h : I < J) (hJ : J < n) (h1 : bef I J = true) (h2 : bef J I = false) (k : Nat) : fore n bef J (I + 1) k = if k = J then fore n bef J I J ++ [I] else fore n bef J I k := by
  by_cases hk : k = J
  · subst hk
    rw [if_pos rfl]
    refine filter_snoc n (by omega) (fun j => ?_) (fun j hp => ?_)
    · rw [proc_step h]
      by_cases e : j = I
      · subst e; simp [h1]
      · have : (decide (k = I) && decide (j = k) || decide (k = k) && decide (j = I)) = false := by simp; omega
        rw [this, Bool.or_false]; simp [e]
    · rw [Bool.and_eq_true] at hp
      exact proc_lt2 h hp.1
  · rw [if_neg hk]
    refine List.filter_congr fun j _ => ?_
    rw [proc_step h]
    by_cases e2 : k = I ∧ j = J
    · rw [e2.1, e2.2, h2]; simp
    · have : (decide (k = I) && decide (j = J) || decide (k = J) && decide (j = I)) = false := by simp; omega
      rw [this, Bool.or_false]
/-- J stands ahead of I -/
theorem aft_2 (h : I < J) (hJ : J < n) (h1 : bef I J = false) (h2 : bef J I = true) (k : Nat) : aft n bef J (I + 1) k = if k = J then aft n bef J I J ++ [I] else aft n bef J I k := by
  by_cases hk : k = J
  · subst hk
    rw [if_pos rfl]
    refine filter_snoc n (by omega) (fun j => ?_) (fun j hp => ?_)
    · rw [proc_step h]
      by_cases e : j = I
      · subst e; simp [h2]
      · have : (decide (k = I) && decide (j = k) || decide (k = k) && decide (j = I)) = false := by simp; omega
        rw [this, Bool.or_false]; simp [e]
    · rw [Bool.and_eq_true] at hp
      exact proc_lt2 h hp.1
  · rw [if_neg hk]
    refine List.filter_congr fun j _ => ?_
    rw [proc_step h]
    by_cases e2 : k = I ∧ j = J
    · rw [e2.1, e2.2, h1]; simp
    · have : (decide (k = I) && decide (j = J) || decide (k = J) && decide (j = I)) = false := by simp; omega
      rw [this, Bool.or_false]
theorem fore_2 (h : I < J) (hJ : J < n) (h1 : bef I J = false) (h2 : bef J I = true) (k : Nat) : fore n bef J (I + 1) k = if k = I then fore n bef J I I ++ [J] else fore n bef J I k := by
  by_cases hk : k = I
  · subst hk
    rw [if_pos rfl]
    refine filter_snoc n hJ (fun j => ?_) (fun j hp => ?_)
    · rw [proc_step h]
      by_cases e : j = J
      · subst e; simp [h2]
      · have : (decide (k = k) && decide (j = J) || decide (k = J) && decide (j = k)) = false := by simp; omega
        rw [this, Bool.or_false]; simp [e]
    · rw [Bool.and_eq_true] at hp
      exact proc_lt1 h hp.1
  · rw [if_neg hk]
    refine List.filter_congr fun j _ => ?_
    rw [proc_step h]
    by_cases e2 : k = J ∧ j = I
    · rw [e2.1, e2.2, h1]; simp
    · have : (decide (k = I) && decide (j = J) || decide (k = J) && decide (j = I)) = false := by simp; omega
      rw [this, Bool.or_false]
theorem aft_next (k : Nat) : aft n bef J J k = aft n bef (J + 1) 0 k := List.filter_congr fun j _ => by rw [proc_next]
theorem fore_next (k : Nat) : fore n bef J J k = fore n bef (J + 1) 0 k := List.filter_congr fun j _ => by rw [proc_next]
theorem aft_0 (k : Nat) : aft n bef 0 0 k = [] := List.filter_eq_nil_iff.2 fun j _ => by rw [proc_0]; simp
theorem fore_0 (k : Nat) : fore n bef 0 0 k = [] := List.filter_eq_nil_iff.2 fun j _ => by rw [proc_0]; simp
theorem aft_len (k : Nat) : (aft n bef J I k).length ≤ n := by
  have := List.length_filter_le (fun j => proc J I k j && bef k j) (List.range n)
  rw [List.length_range] at this
  exact this
theorem fore_len (k : Nat) : (fore n bef J I k).length ≤ n := by
  have := List.length_filter_le (fun j => proc J I k j && bef j k) (List.range n)
  rw [List.length_range] at this
  exact this
end
end Go.Proofs.Ytccdmoogjcgcfaa
