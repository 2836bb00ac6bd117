/-
  PLAIN MATHEMATICS: sorting keeps what a tree is, is done once, and equal in the order means equal, of sorted ones.
-/
import Derived.Test.YtfibmmmbpfnccaaGreatDoorVtT
namespace Go.Proofs.YtfibmmmbpfnccaaGreatDoor

theorem ins_head {β : Type} {p : Bs × β} : ∀ {l : List (Bs × β)}, (∀ q ∈ l, cmpB p.1 q.1 < 0) → ins cmpB p l = p :: l
  | [], _ => rfl
  | q :: l, h => by
    unfold ins
    rw [if_pos (by have := h q List.mem_cons_self; omega)]
theorem isort_fix {β : Type} : ∀ {l : List (Bs × β)}, l.Pairwise (fun a b => cmpB a.1 b.1 < 0) → isort cmpB l = l
  | [], _ => rfl
  | p :: l, h => by
    obtain ⟨h1, h2⟩ := List.pairwise_cons.1 h
    simp only [isort]
    rw [isort_fix h2, ins_head h1]
theorem isort_strict {β : Type} {l : List (Bs × β)} (hn : (l.map (·.1)).Nodup) : (isort cmpB l).Pairwise (fun a b => cmpB a.1 b.1 < 0) := by
  have h1 := isort_sorted ordr_cmpB l
  have h2 : ((isort cmpB l).map (·.1)).Nodup := ((isort_perm cmpB l).map (·.1)).nodup_iff.2 hn
  have h3 : (isort cmpB l).Pairwise (fun a b => a.1 ≠ b.1) := List.pairwise_map.1 h2
  refine (h1.and h3).imp ?_
  rintro a b ⟨h4, h5⟩
  have : cmpB a.1 b.1 ≠ 0 := fun e => h5 (cmpB_eq e)
  omega
theorem zip_own {α β : Type} : ∀ l : List (α × β), (l.map (·.1)).zip (l.map (·.2)) = l
  | [] => rfl
  | p :: l => by simp only [List.map_cons, List.zip_cons_cons, zip_own l]
/-- a good object, sorted -/
theorem sortV_six (t : Bs) (ks : List Bs) (is : List Vl) : sortV (.mk 6 t ks is) = .mk 6 t ((isort cmpB (ks.zip (is.map sortV))).map (·.1)) ((isort cmpB (ks.zip (is.map sortV))).map (·.2)) := by
  simp only [sortV]
  rw [if_pos trivial, sortL_map]
theorem sortV_idem : ∀ v : Vl, Good v → sortV (sortV v) = sortV v := Vl.ind (fun k t ks is ih h => by
  by_cases h6 : k = 6
  · subst h6
    obtain ⟨h1, _, h2⟩ := h.obj rfl
    rw [sortV_six]
    have hp := isort_perm cmpB (ks.zip (is.map sortV))
    have hs := isort_strict (l := ks.zip (is.map sortV)) (by rw [List.map_fst_zip (by rw [List.length_map]; omega)]; exact h2)
    generalize isort cmpB (ks.zip (is.map sortV)) = L at *
    have hid : ∀ p ∈ L, sortV p.2 = p.2 := fun p hpL => by
      have hz := hp.mem_iff.1 hpL
      obtain ⟨a, b⟩ := p
      obtain ⟨x, hx, rfl⟩ := List.mem_map.1 (List.of_mem_zip hz).2
      exact ih x hx (h.items x hx)
    have e : (L.map (·.2)).map sortV = L.map (·.2) := by rw [List.map_map]; exact List.map_congr_left (fun p hp => hid p hp)
    rw [sortV_six, e, zip_own, isort_fix hs]
  · rw [sortV_else h6, sortV_else h6, List.map_map]
    congr 1
    exact List.map_congr_left (fun x hx => ih x hx (h.items x hx)))
theorem Vl.sizes_perm {a b : List Vl} (h : a.Perm b) : Vl.sizes a = Vl.sizes b := by
  induction h with
  | nil => rfl
  | cons x _ ih => simp only [Vl.sizes, ih]
  | swap x y l => simp only [Vl.sizes]; omega
  | trans _ _ h1 h2 => exact h1.trans h2
theorem Vl.depths_perm {a b : List Vl} (h : a.Perm b) : Vl.depths a = Vl.depths b := by
  induction h with
  | nil => rfl
  | cons x _ ih => simp only [Vl.depths, ih]
  | swap x y l => simp only [Vl.depths]; omega
  | trans _ _ h1 h2 => exact h1.trans h2
theorem Vl.sizes_map {f : Vl → Vl} : ∀ {l : List Vl}, (∀ x ∈ l, (f x).size = x.size) → Vl.sizes (l.map f) = Vl.sizes l
  | [], _ => rfl
  | v :: l, h => by simp only [List.map_cons, Vl.sizes, h v List.mem_cons_self, Vl.sizes_map (l := l) (fun x hx => h x (List.mem_cons_of_mem _ hx))]
theorem Vl.depths_map {f : Vl → Vl} : ∀ {l : List Vl}, (∀ x ∈ l, (f x).depth = x.depth) → Vl.depths (l.map f) = Vl.depths l
  | [], _ => rfl
  | v :: l, h => by simp only [List.map_cons, Vl.depths, h v List.mem_cons_self, Vl.depths_map (l := l) (fun x hx => h x (List.mem_cons_of_mem _ hx))]
theorem items_perm (ks : List Bs) (is : List Vl) (h : ks.length = is.length) : ((isort cmpB (ks.zip (is.map sortV))).map (·.2)).Perm (is.map sortV) := by
  have hp := (isort_perm cmpB (ks.zip (is.map sortV))).map (·.2)
  rwa [List.map_snd_zip (by rw [List.length_map]; omega)] at hp
theorem keys_perm (ks : List Bs) (is : List Vl) (h : ks.length = is.length) : ((isort cmpB (ks.zip (is.map sortV))).map (·.1)).Perm ks := by
  have hp := (isort_perm cmpB (ks.zip (is.map sortV))).map (·.1)
  rwa [List.map_fst_zip (by rw [List.length_map]; omega)] at hp
theorem sort_size : ∀ v : Vl, Good v → (sortV v).size = v.size := Vl.ind (fun k t ks is ih h => by
  have hm := Vl.sizes_map (f := sortV) (l := is) (fun x hx => ih x hx (h.items x hx))
  by_cases h6 : k = 6
  · subst h6
    obtain ⟨h1, _, h2⟩ := h.obj rfl
    rw [sortV_six]
    simp only [Vl.size]
    rw [Vl.sizes_perm (items_perm ks is h1), hm]
  · rw [sortV_else h6]
    simp only [Vl.size, hm])
theorem sort_depth : ∀ v : Vl, Good v → (sortV v).depth = v.depth := Vl.ind (fun k t ks is ih h => by
  have hm := Vl.depths_map (f := sortV) (l := is) (fun x hx => ih x hx (h.items x hx))
  by_cases h6 : k = 6
  · subst h6
    obtain ⟨h1, _, h2⟩ := h.obj rfl
    rw [sortV_six]
    simp only [Vl.depth]
    rw [Vl.depths_perm (items_perm ks is h1), hm]
  · rw [sortV_else h6]
    simp only [Vl.depth, hm])
theorem good_mk {k : Int} {t : Bs} {ks : List Bs} {is : List Vl} (h : nodeM (.mk k t ks is) = true) (hi : ∀ x ∈ is, Good x) : Good (.mk k t ks is) := by
  unfold Good
  simp only [Vl.allB, Bool.and_eq_true]
  exact ⟨h, Vl.allsB_iff.2 hi⟩
theorem good_sort : ∀ v : Vl, Good v → Good (sortV v) := Vl.ind (fun k t ks is ih h => by
  have hn := h.node
  by_cases h6 : k = 6
  · subst h6
    obtain ⟨h1, _, h2⟩ := h.obj rfl
    rw [sortV_six]
    have pk := keys_perm ks is h1
    have pi := items_perm ks is h1
    have hl : ((isort cmpB (ks.zip (is.map sortV))).map (·.1)).length = ((isort cmpB (ks.zip (is.map sortV))).map (·.2)).length := by rw [List.length_map, List.length_map]
    generalize (isort cmpB (ks.zip (is.map sortV))).map (·.1) = K at *
    generalize (isort cmpB (ks.zip (is.map sortV))).map (·.2) = I at *
    refine good_mk ?_ (fun x hx => ?_)
    · rw [nodeM_mk, if_neg (by decide), if_pos rfl] at hn ⊢
      unfold membersM at hn ⊢
      simp only [Bool.and_eq_true, decide_eq_true_eq, List.all_eq_true] at hn ⊢
      refine ⟨hn.1, hl, by rw [pk.length_eq]; exact hn.2.2.1, fun x hx => hn.2.2.2.1 x (pk.mem_iff.1 hx), pk.nodup_iff.2 h2⟩
    · obtain ⟨y, hy, rfl⟩ := List.mem_map.1 (pi.mem_iff.1 hx)
      exact ih y hy (h.items y hy)
  · rw [sortV_else h6]
    refine good_mk ?_ (fun x hx => ?_)
    · rw [nodeM_mk] at hn ⊢
      rw [if_neg h6] at hn ⊢
      by_cases h5 : k = 5
      · rw [if_pos h5] at hn ⊢
        simp only [Bool.and_eq_true, decide_eq_true_eq] at hn ⊢
        exact ⟨hn.1, trivial⟩
      · rw [if_neg h5] at hn ⊢
        simp only [Bool.and_eq_true, decide_eq_true_eq] at hn ⊢
        exact ⟨⟨trivial, by rw [hn.1.2]; rfl⟩, hn.2⟩
    · obtain ⟨y, hy, rfl⟩ := List.mem_map.1 hx
      exact ih y hy (h.items y hy))
theorem open_good {v : Vl} (h : openM v = true) : Good v ∧ v.size ≤ 4096 ∧ v.depth ≤ 32 := by
  unfold openM at h
  simp only [Bool.and_eq_true, decide_eq_true_eq] at h
  exact ⟨h.2.2, h.1, h.2.1⟩
theorem open_sort {v : Vl} (h : openM v = true) : openM (sortV v) = true := by
  obtain ⟨h1, h2, h3⟩ := open_good h
  unfold openM
  simp only [Bool.and_eq_true, decide_eq_true_eq]
  exact ⟨by rw [sort_size v h1]; exact h2, by rw [sort_depth v h1]; exact h3, good_sort v h1⟩
theorem decM_inj {t t' : Bs} (h : decM t = true) (h' : decM t' = true) (e : compareM (numT t) (numT t') = 0) : t = t' := by
  unfold decM at h h'
  simp only [Bool.and_eq_true, decide_eq_true_eq] at h h'
  have r := parseM_right (l := t) (m := (parseM t).1) (Prod.ext rfl h.1)
  have r' := parseM_right (l := t') (m := (parseM t').1) (Prod.ext rfl h'.1)
  have := (compareM_zero r r').1 e
  rw [← h.2, ← h'.2, this]
theorem cmpV_zero : ∀ v w : Vl, Good v → Good w → cmpV v w = 0 → v = w := Vl.ind (fun k t ks is ih w hv hw h => by
  obtain ⟨k', t', ks', is'⟩ := w
  have hk : k = k' := by
    rcases Int.lt_trichotomy k k' with e | e | e
    · rw [cmpV_lt (v := .mk k t ks is) (w := .mk k' t' ks' is') e] at h; omega
    · exact e
    · rw [cmpV_gt (v := .mk k t ks is) (w := .mk k' t' ks' is') e] at h; omega
  subst hk
  rw [cmpV_same (v := .mk k t ks is) (w := .mk k t' ks' is') rfl] at h
  have hi : lexM cmpV is is' = 0 → is = is' := fun e => lexM_zero is is' (fun x hx y hy e => ih x hx y (hv.items x hx) (hw.items y hy) e) e
  have n1 := hv.node
  have n2 := hw.node
  rw [nodeM_mk] at n1 n2
  have h : bodyV k (.mk k t ks is) (.mk k t' ks' is') = 0 := h
  unfold bodyV at h
  simp only [Vl.t, Vl.ks, Vl.is] at h
  by_cases h5 : k = 5
  · rw [if_pos h5] at n1 n2
    rw [if_neg (show ¬ k = 3 by omega), if_pos h5] at h
    simp only [Bool.and_eq_true, decide_eq_true_eq] at n1 n2
    rw [n1.1, n1.2, n2.1, n2.2, hi h]
  by_cases h6 : k = 6
  · rw [if_neg h5, if_pos h6] at n1 n2
    rw [if_neg (show ¬ k = 3 by omega), if_neg h5, if_pos h6] at h
    simp only [Bool.and_eq_true, decide_eq_true_eq] at n1 n2
    unfold thenM at h
    by_cases h0 : lexM cmpB ks ks' = 0
    · rw [if_neg (fun e => e h0)] at h
      rw [n1.1, n2.1, hi h, lexM_zero ks ks' (fun x _ y _ e => cmpB_eq e) h0]
    · rw [if_pos h0] at h; exact absurd h h0
  · rw [if_neg h5, if_neg h6] at n1 n2
    simp only [Bool.and_eq_true, decide_eq_true_eq] at n1 n2
    rw [n1.1.1, n1.1.2, n2.1.1, n2.1.2]
    by_cases h3 : k = 3
    · rw [if_pos h3] at h
      have e1 := n1.2
      have e2 := n2.2
      unfold scalarM at e1 e2
      rw [if_neg (show ¬ k = 1 by omega), if_neg (show ¬ k = 2 by omega), if_pos h3] at e1 e2
      rw [decM_inj e1 e2 h]
    · rw [if_neg h3, if_neg h5, if_neg h6] at h
      rw [cmpB_eq h])
theorem sameM_iff {a b : Vl} (ha : openM a = true) (hb : openM b = true) : sameM a b = true ↔ sortV a = sortV b := by
  unfold sameM
  rw [ha, hb, Bool.true_and, Bool.true_and, decide_eq_true_eq]
  constructor
  · exact cmpV_zero _ _ (good_sort _ (open_good ha).1) (good_sort _ (open_good hb).1)
  · intro e
    rw [e]
    have := ordr_cmpV.swap (sortV b) (sortV b) trivial trivial
    omega
theorem same_sort {a : Vl} (ha : openM a = true) : sameM (sortV a) a = true := (sameM_iff (open_sort ha) ha).2 (sortV_idem a (open_good ha).1)
end Go.Proofs.YtfibmmmbpfnccaaGreatDoor
