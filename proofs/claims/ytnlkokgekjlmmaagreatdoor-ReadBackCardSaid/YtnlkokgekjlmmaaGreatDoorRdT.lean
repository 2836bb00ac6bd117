/-
  PLAIN MATHEMATICS: what is read is a value; where a path leads in a text, it leads in its value; a node's bytes, alone, are its value.
-/
import Derived.Test.YtnlkokgekjlmmaaGreatDoorRdr
import Derived.Test.YtnlkokgekjlmmaaGreatDoorRdi
import Derived.Test.YtnlkokgekjlmmaaGreatDoorUnqD
import Derived.Test.YtnlkokgekjlmmaaGreatDoorJtQ
namespace Go.Proofs.YtnlkokgekjlmmaaGreatDoor
open Go.RowKit
theorem one_word {s : ByteArray} {p k e : Nat} (h : oneM s p = (k, e, 0)) (h10 : 10 ≤ k) : wordM (sub s p e) = k := by
  have hs := (signM_bd (byt s p)).1
  unfold oneM at h
  simp only at h
  split at h
  · have h1 := congrArg Prod.fst h
    simp only at h1
    omega
  · split at h
    · have h1 := congrArg Prod.fst h
      simp only at h1
      omega
    · split at h
      · have h1 := congrArg Prod.fst h
        simp only at h1
        omega
      · split at h
        · split at h
          · have h1 := congrArg Prod.fst h
            simp only at h1
            omega
          · have h1 := congrArg Prod.fst h
            simp only at h1
            omega
        · split at h
          · have h1 := congrArg Prod.fst h
            have h2 := congrArg (fun x => x.2.1) h
            simp only at h1 h2
            rw [h2] at h1
            exact h1
          · have h1 := congrArg Prod.fst h
            simp only at h1
            omega
theorem word_lit {l : Bs} (h : wordM l = 10 ∨ wordM l = 11) : l = [116, 114, 117, 101] ∨ l = [102, 97, 108, 115, 101] := by
  unfold wordM at h
  split at h
  · exact .inl (by assumption)
  · split at h
    · exact .inr (by assumption)
    · split at h <;> omega
theorem leaf_node {s : ByteArray} {x : JN} (h : LeafOk s x) : nodeM (leafV s x) = true ∧ (leafV s x).k ≠ 7 := by
  obtain ⟨t, ht, hv⟩ := leaf_text h
  obtain ⟨_, _, k, h3, h4, hkd⟩ := h
  have hsc : scalarM (x.kd : Int) t = true := by
    unfold LeafT at ht
    rcases ht with ⟨e, rfl⟩ | ⟨e, rfl⟩ | ⟨e, h1, rfl⟩ | ⟨e, h1, rfl⟩
    · rw [e]; rfl
    · have hk : k = 10 ∨ k = 11 := by
        rw [e] at h4
        unfold kindM at h4
        repeat' split at h4
        all_goals omega
      have hw := word_lit (l := sub s x.a x.b) (by rw [one_word h3 (by omega)]; exact hk)
      rw [e]
      have hs : (s.extract x.a x.b).data.toList = sub s x.a x.b := rfl
      rw [hs]
      rcases hw with hw | hw <;> (rw [hw]; rfl)
    · rw [e]
      have hp := parseM_right (l := (s.extract x.a x.b).data.toList) (m := (parseM (s.extract x.a x.b).data.toList).1) (by rw [← h1])
      show decM _ = true
      unfold decM
      rw [parseM_textM _ hp]
      simp
    · rw [e]
      exact (unquote_ok _ h1).2
  rw [hv]
  refine ⟨?_, show (x.kd : Int) ≠ 7 by omega⟩
  rw [nodeM_mk, if_neg (by omega), if_neg (by omega), hsc]
  rfl
theorem getD_allV {P : Vl → Prop} {vs : List Vl} (h : ∀ i, i < vs.length → P (vs.getD i zV)) : ∀ x ∈ vs, P x := fun x hx => by
  obtain ⟨i, hi, rfl⟩ := List.getElem_of_mem hx
  have := h i hi
  rwa [getD_at _ _ hi] at this
theorem sum_ge : ∀ {cs : List Nat}, (∀ i, i < cs.length → 1 ≤ cs.getD i 0) → cs.length ≤ cs.sum
  | [], _ => Nat.le_refl _
  | c :: cs, h => by
    have h0 := h 0 (by simp)
    have h1 := sum_ge (cs := cs) (fun i hi => by have := h (i + 1) (by simpa using hi); simpa using this)
    simp only [List.length_cons, List.sum_cons, List.getD_cons_zero] at *
    omega
theorem sum_mem : ∀ {cs : List Nat} {i : Nat}, i < cs.length → cs.getD i 0 ≤ cs.sum
  | [], i, h => absurd h (Nat.not_lt_zero _)
  | c :: cs, 0, _ => by simp
  | c :: cs, i + 1, h => by
    have := sum_mem (cs := cs) (i := i) (by simpa using h)
    simp only [List.getD_cons_succ, List.sum_cons]
    omega
theorem sizes_sum : ∀ {vs : List Vl} {cs : List Nat}, vs.length = cs.length → (∀ i, i < vs.length → (vs.getD i zV).size = cs.getD i 0) → Vl.sizes vs = cs.sum
  | [], [], _, _ => rfl
  | [], c :: cs, h, _ => by cases h
  | v :: vs, [], h, _ => by cases h
  | v :: vs, c :: cs, h, hh => by
    have h0 := hh 0 (by simp)
    have h1 := sizes_sum (vs := vs) (cs := cs) (by simpa using h) (fun i hi => by have := hh (i + 1) (by simpa using hi); simpa using this)
    simp only [List.getD_cons_zero] at h0
    simp only [Vl.sizes, List.sum_cons]
    omega
theorem depths_of {d : Nat} : ∀ {vs : List Vl}, (∀ x ∈ vs, x.depth ≤ d) → Vl.depths vs ≤ d
  | [], _ => Nat.zero_le _
  | v :: vs, h => by
    simp only [Vl.depths]
    have h1 := h v (by simp)
    have h2 := depths_of (vs := vs) (fun x hx => h x (by simp [hx]))
    omega
theorem rv_right {s : ByteArray} {ns : List JN} {d k : Nat} {v : Vl} {c : Nat} (h : Rv s ns d k v c) : c ≤ 4096 → v.allB (fun x => nodeM x && decide (x.k ≠ 7)) = true ∧ v.size = c ∧ v.depth ≤ d := by
  have mk : ∀ {k : Int} {t : Bs} {ks : List Bs} {is : List Vl}, nodeM (.mk k t ks is) = true → k ≠ 7 → (∀ x ∈ is, x.allB (fun x => nodeM x && decide (x.k ≠ 7)) = true) → (Vl.mk k t ks is).allB (fun x => nodeM x && decide (x.k ≠ 7)) = true := fun h1 h2 h3 => by
    simp only [Vl.allB, Bool.and_eq_true]
    exact ⟨⟨h1, decide_eq_true h2⟩, Vl.allsB_iff.2 h3⟩
  induction h with
  | @leaf d k x h1 h2 h3 =>
    intro _
    obtain ⟨g1, g2⟩ := leaf_node h2
    obtain ⟨t, _, hv⟩ := leaf_text h2
    rw [hv] at g1 g2 ⊢
    exact ⟨mk g1 g2 (fun x hx => by cases hx), by simp [Vl.size, Vl.sizes], by simp [Vl.depth, Vl.depths]⟩
  | @arr d k x vs cs h1 h2 h3 h4 h5 h6 ih =>
    intro hc
    have hi : ∀ i, i < x.kids.length → (vs.getD i zV).allB (fun x => nodeM x && decide (x.k ≠ 7)) = true ∧ (vs.getD i zV).size = cs.getD i 0 ∧ (vs.getD i zV).depth ≤ d := fun i hi => ih i hi (by have := sum_mem (cs := cs) (i := i) (by omega); omega)
    refine ⟨mk (by rw [nodeM_mk, if_pos rfl]; rfl) (by decide) (getD_allV fun i h => (hi i (by omega)).1), ?_, ?_⟩
    · simp only [Vl.size]
      rw [sizes_sum (cs := cs) (by omega) (fun i h => (hi i (by omega)).2.1)]
      omega
    · simp only [Vl.depth]
      have := depths_of (d := d) (getD_allV (vs := vs) fun i h => (hi i (by omega)).2.2)
      omega
  | @obj d k x ks vs cs h1 h2 h3 h4 h5 h6 h7 h8 h9 ih =>
    intro hc
    have hi : ∀ i, i < x.kids.length → (vs.getD i zV).allB (fun x => nodeM x && decide (x.k ≠ 7)) = true ∧ (vs.getD i zV).size = cs.getD i 0 ∧ (vs.getD i zV).depth ≤ d := fun i hi => ih i hi (by have := sum_mem (cs := cs) (i := i) (by omega); omega)
    have hge := sum_ge (cs := cs) (fun i h => (rv_pos (h9 i (by omega))).1)
    have hm : membersM ks vs.length = true := by
      unfold membersM
      simp only [Bool.and_eq_true, decide_eq_true_eq, List.all_eq_true]
      refine ⟨by omega, by omega, fun key hk => ?_, h7⟩
      obtain ⟨i, hi, rfl⟩ := List.getElem_of_mem hk
      obtain ⟨y, _, a2, a3⟩ := h8 i (by omega)
      rw [getD_at _ _ hi] at a3
      rw [a3]
      exact (unquote_ok _ (str_unq a2)).2
    refine ⟨mk (by rw [nodeM_mk, if_neg (by decide), if_pos rfl, hm]; rfl) (by decide) (getD_allV fun i h => (hi i (by omega)).1), ?_, ?_⟩
    · simp only [Vl.size]
      rw [sizes_sum (cs := cs) (by omega) (fun i h => (hi i (by omega)).2.1)]
      omega
    · simp only [Vl.depth]
      have := depths_of (d := d) (getD_allV (vs := vs) fun i h => (hi i (by omega)).2.2)
      omega
theorem parsed_nodes {s : ByteArray} {ns : List JN} (h : jparseM s = .inr ns) (h4 : s.size ≤ 4096) : ns.length ≤ 4096 := by
  obtain ⟨_, l, hl, hv⟩ := jparse_parts h
  obtain ⟨_, k2⟩ := hl.mem (Nat.zero_le _)
  obtain ⟨c, c1, _, c2⟩ := valueM_ts id 0 0 0 s.size s.size (keyTx s) (keyTx s) 32 _ _ _ _ _ hv (Nat.le_refl _)
  have := (c2 (0, 0) (.inl (Nat.le_refl _))).up
  rw [List.append_nil] at c1
  subst c1
  simp only [List.length_nil] at this
  omega
theorem read_right {s : ByteArray} {ns : List JN} {v : Vl} {c : Nat} (h : Rv s ns 32 0 v c) (hc : c ≤ 4096) : rightM v = true ∧ openM v = true := by
  obtain ⟨h1, h2, h3⟩ := rv_right h hc
  unfold rightM openM
  rw [h1]
  have h4 := h1
  rw [Vl.allB_and, Bool.and_eq_true] at h4
  rw [h4.1]
  simp only [Bool.and_true, Bool.and_eq_true, decide_eq_true_eq]
  omega
/-! ### paths -/
/-! ### alone -/
end Go.Proofs.YtnlkokgekjlmmaaGreatDoor
