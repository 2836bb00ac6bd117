/-
  PLAIN MATHEMATICS: what is read is a value; where a path leads in a text, it leads in its value; a node's bytes, alone, are its value.
-/
import Derived.Test.YtnlkokgekjlmmaaGreatDoorRdr
import Derived.Test.YtnlkokgekjlmmaaGreatDoorRdi
import Derived.Test.YtnlkokgekjlmmaaGreatDoorUnqD
import Derived.Test.YtnlkokgekjlmmaaGreatDoorJtQ
namespace Go.Proofs.YtnlkokgekjlmmaaGreatDoor
open Go.RowKit

theorem one_word {s : ByteArray} {p k e : Nat} (h : oneM s p = (k, e, 0)) (h10 : 10 ≤ k) : wordM (sub s p e) = k := by
  have hs := (signM_bd (byt s p)).1
  unfold oneM at h
  simp only at h
  split at h
  · have h1 := congrArg Prod.fst h
    simp only at h1
    omega
  · split at h
    · have h1 := congrArg Prod.fst h
      simp only at h1
      omega
    · split at h
      · have h1 := congrArg Prod.fst h
        simp only at h1
        omega
      · split at h
        · split at h
          · have h1 := congrArg Prod.fst h
            simp only at h1
            omega
          · have h1 := congrArg Prod.fst h
            simp only at h1
            omega
        · split at h
          · have h1 := congrArg Prod.fst h
            have h2 := congrArg (fun x => x.2.1) h
            simp only at h1 h2
            rw [h2] at h1
            exact h1
          · have h1 := congrArg Prod.fst h
            simp only at h1
            omega
theorem word_lit {l : Bs} (h : wordM l = 10 ∨ wordM l = 11) : l = [116, 114, 117, 101] ∨ l = [102, 97, 108, 115, 101] := by
  unfold wordM at h
  split at h
  · exact .inl (by assumption)
  · split at h
    · exact .inr (by assumption)
    · split at h <;> omega
theorem leaf_node {s : ByteArray} {x : JN} (h : LeafOk s x) : nodeM (leafV s x) = true ∧ (leafV s x).k ≠ 7 := by
  obtain ⟨t, ht, hv⟩ := leaf_text h
  obtain ⟨_, _, k, h3, h4, hkd⟩ := h
  have hsc : scalarM (x.kd : Int) t = true := by
    unfold LeafT at ht
    rcases ht with ⟨e, rfl⟩ | ⟨e, rfl⟩ | ⟨e, h1, rfl⟩ | ⟨e, h1, rfl⟩
    · rw [e]; rfl
    · have hk : k = 10 ∨ k = 11 := by
        rw [e] at h4
        unfold kindM at h4
        repeat' split at h4
        all_goals omega
      have hw := word_lit (l := sub s x.a x.b) (by rw [one_word h3 (by omega)]; exact hk)
      rw [e]
      have hs : (s.extract x.a x.b).data.toList = sub s x.a x.b := rfl
      rw [hs]
      rcases hw with hw | hw <;> (rw [hw]; rfl)
    · rw [e]
      have hp := parseM_right (l := (s.extract x.a x.b).data.toList) (m := (parseM (s.extract x.a x.b).data.toList).1) (by rw [← h1])
      show decM _ = true
      unfold decM
      rw [parseM_textM _ hp]
      simp
    · rw [e]
      exact (unquote_ok _ h1).2
  rw [hv]
  refine ⟨?_, show (x.kd : Int) ≠ 7 by omega⟩
  rw [nodeM_mk, if_neg (by omega), if_neg (by omega), hsc]
  rfl
theorem getD_allV {P : Vl → Prop} {vs : List Vl} (h : ∀ i, i < vs.length → P (vs.getD i zV)) : ∀ x ∈ vs, P x := fun x hx => by
  obtain ⟨i, hi, rfl⟩ := List.getElem_of_mem hx
  have := h i hi
  rwa [getD_at _ _ hi] at this
theorem sum_ge : ∀ {cs : List Nat}, (∀ i, i < cs.length → 1 ≤ cs.getD i 0) → cs.length ≤ cs.sum
  | [], _ => Nat.le_refl _
  | c :: cs, h => by
    have h0 := h 0 (by simp)
    have h1 := sum_ge (cs := cs) (fun i hi => by have := h (i + 1) (by simpa using hi); simpa using this)
    simp only [List.length_cons, List.sum_cons, List.getD_cons_zero] at *
    omega
theorem sum_mem : ∀ {cs : List Nat} {i : Nat}, i < cs.length → cs.getD i 0 ≤ cs.sum
  | [], i, h => absurd h (Nat.not_lt_zero _)
  | c :: cs, 0, _ => by simp
  | c :: cs, i + 1, h => by
    have := sum_mem (cs := cs) (i := i) (by simpa using h)
    simp only [List.getD_cons_succ, List.sum_cons]
    omega
theorem sizes_sum : ∀ {vs : List Vl} {cs : List Nat}, vs.length = cs.length → (∀ i, i < vs.length → (vs.getD i zV).size = cs.getD i 0) → Vl.sizes vs = cs.sum
  | [], [], _, _ => rfl
  | [], c :: cs, h, _ => by cases h
  | v :: vs, [], h, _ => by cases h
  | v :: vs, c :: cs, h, hh => by
    have h0 := hh 0 (by simp)
    have h1 := sizes_sum (vs := vs) (cs := cs) (by simpa using h) (fun i hi => by have := hh (i + 1) (by simpa using hi); simpa using this)
    simp only [List.getD_cons_zero] at h0
    simp only [Vl.sizes, List.sum_cons]
    omega
theorem depths_of {d : Nat} : ∀ {vs : List Vl}, (∀ x ∈ vs, x.depth ≤ d) → Vl.depths vs ≤ d
  | [], _ => Nat.zero_le _
  | v :: vs, h => by
    simp only [Vl.depths]
    have h1 := h v (by simp)
    have h2 := depths_of (vs := vs) (fun x hx => h x (by simp [hx]))
    omega
/-- what is read is a value -/
theorem rv_right {s : ByteArray} {ns : List JN} {d k : Nat} {v : Vl} {c : Nat} (h : Rv s ns d k v c) : c ≤ 4096 → v.allB (fun x => nodeM x && decide (x.k ≠ 7)) = true ∧ v.size = c ∧ v.depth ≤ d := by
  have mk : ∀ {k : Int} {t : Bs} {ks : List Bs} {is : List Vl}, nodeM (.mk k t ks is) = true → k ≠ 7 → (∀ x ∈ is, x.allB (fun x => nodeM x && decide (x.k ≠ 7)) = true) → (Vl.mk k t ks is).allB (fun x => nodeM x && decide (x.k ≠ 7)) = true := fun h1 h2 h3 => by
    simp only [Vl.allB, Bool.and_eq_true]
    exact ⟨⟨h1, decide_eq_true h2⟩, Vl.allsB_iff.2 h3⟩
  induction h with
  | @leaf d k x h1 h2 h3 =>
    intro _
    obtain ⟨g1, g2⟩ := leaf_node h2
    obtain ⟨t, _, hv⟩ := leaf_text h2
    rw [hv] at g1 g2 ⊢
    exact ⟨mk g1 g2 (fun x hx => by cases hx), by simp [Vl.size, Vl.sizes], by simp [Vl.depth, Vl.depths]⟩
  | @arr d k x vs cs h1 h2 h3 h4 h5 h6 ih =>
    intro hc
    have hi : ∀ i, i < x.kids.length → (vs.getD i zV).allB (fun x => nodeM x && decide (x.k ≠ 7)) = true ∧ (vs.getD i zV).size = cs.getD i 0 ∧ (vs.getD i zV).depth ≤ d := fun i hi => ih i hi (by have := sum_mem (cs := cs) (i := i) (by omega); omega)
    refine ⟨mk (by rw [nodeM_mk, if_pos rfl]; rfl) (by decide) (getD_allV fun i h => (hi i (by omega)).1), ?_, ?_⟩
    · simp only [Vl.size]
      rw [sizes_sum (cs := cs) (by omega) (fun i h => (hi i (by omega)).2.1)]
      omega
    · simp only [Vl.depth]
      have := depths_of (d := d) (getD_allV (vs := vs) fun i h => (hi i (by omega)).2.2)
      omega
  | @obj d k x ks vs cs h1 h2 h3 h4 h5 h6 h7 h8 h9 ih =>
    intro hc
    have hi : ∀ i, i < x.kids.length → (vs.getD i zV).allB (fun x => nodeM x && decide (x.k ≠ 7)) = true ∧ (vs.getD i zV).size = cs.getD i 0 ∧ (vs.getD i zV).depth ≤ d := fun i hi => ih i hi (by have := sum_mem (cs := cs) (i := i) (by omega); omega)
    have hge := sum_ge (cs := cs) (fun i h => (rv_pos (h9 i (by omega))).1)
    have hm : membersM ks vs.length = true := by
      unfold membersM
      simp only [Bool.and_eq_true, decide_eq_true_eq, List.all_eq_true]
      refine ⟨by omega, by omega, fun key hk => ?_, h7⟩
      obtain ⟨i, hi, rfl⟩ := List.getElem_of_mem hk
      obtain ⟨y, _, a2, a3⟩ := h8 i (by omega)
      rw [getD_at _ _ hi] at a3
      rw [a3]
      exact (unquote_ok _ (str_unq a2)).2
    refine ⟨mk (by rw [nodeM_mk, if_neg (by decide), if_pos rfl, hm]; rfl) (by decide) (getD_allV fun i h => (hi i (by omega)).1), ?_, ?_⟩
    · simp only [Vl.size]
      rw [sizes_sum (cs := cs) (by omega) (fun i h => (hi i (by omega)).2.1)]
      omega
    · simp only [Vl.depth]
      have := depths_of (d := d) (getD_allV (vs := vs) fun i h => (hi i (by omega)).2.2)
      omega
theorem parsed_nodes {s : ByteArray} {ns : List JN} (h : jparseM s = .inr ns) (h4 : s.size ≤ 4096) : ns.length ≤ 4096 := by
  obtain ⟨_, l, hl, hv⟩ := jparse_parts h
  obtain ⟨_, k2⟩ := hl.mem (Nat.zero_le _)
  obtain ⟨c, c1, _, c2⟩ := valueM_ts id 0 0 0 s.size s.size (keyTx s) (keyTx s) 32 _ _ _ _ _ hv (Nat.le_refl _)
  have := (c2 (0, 0) (.inl (Nat.le_refl _))).up
  rw [List.append_nil] at c1
  subst c1
  simp only [List.length_nil] at this
  omega
theorem read_right {s : ByteArray} {ns : List JN} {v : Vl} {c : Nat} (h : Rv s ns 32 0 v c) (hc : c ≤ 4096) : rightM v = true ∧ openM v = true := by
  obtain ⟨h1, h2, h3⟩ := rv_right h hc
  unfold rightM openM
  rw [h1]
  have h4 := h1
  rw [Vl.allB_and, Bool.and_eq_true] at h4
  rw [h4.1]
  simp only [Bool.and_true, Bool.and_eq_true, decide_eq_true_eq]
  omega
/-! ### paths -/
theorem kidKs_of {s : ByteArray} {ns : List JN} {kids : List Nat} {ks : List Bs} (hl : ks.length = kids.length) (h : ∀ i, i < kids.length → ∃ y, ns[kids.getD i 0]? = some y ∧ StrOk s y.ka y.kb ∧ ks.getD i [] = keyTx s y.ka y.kb) : kidKs s ns kids = ks := by
  unfold kidKs
  apply List.ext_getElem (by rw [List.length_map, hl])
  intro i h1 h2
  rw [List.getElem_map]
  rw [List.length_map] at h1
  obtain ⟨y, a1, _, a3⟩ := h i h1
  rw [getD_at _ _ h1] at a1
  rw [getD_at _ _ h2] at a3
  rw [a1]
  exact a3.symm
theorem kid_below {s : ByteArray} {ns : List JN} {d k : Nat} {v : Vl} {c : Nat} (h : Rv s ns d k v c) (p : Bs) :
    (∀ j, kidOf s ns k p = some j → ∃ w d' c', (belowM v p).2 = true ∧ v.is[(belowM v p).1.toNat]? = some w ∧ Rv s ns d' j w c') ∧ (kidOf s ns k p = none → (belowM v p).2 = false) := by
  cases h with
  | @leaf d k x h1 h2 h3 =>
    obtain ⟨t, _, hv⟩ := leaf_text h2
    obtain ⟨_, _, _, _, _, hkd⟩ := h2
    have hko : kidOf s ns k p = none := by
      unfold kidOf kidAt
      rw [h1]
      simp only
      rw [if_neg (by omega), if_neg (by omega)]
    rw [hko, hv]
    refine ⟨(fun j h => by cases h), fun _ => ?_⟩
    unfold belowM
    rw [if_neg (show ¬ (Vl.mk (x.kd : Int) t [] []).k = 6 from fun e => by have : (x.kd : Int) = 6 := e; omega), if_neg (show ¬ (Vl.mk (x.kd : Int) t [] []).k = 5 from fun e => by have : (x.kd : Int) = 5 := e; omega)]
  | @arr d k x vs cs h1 h2 h3 h4 h5 h6 =>
    have hb : belowM (.mk 5 [] [] vs) p = ((((indexM p).getD 0 : Nat) : Int), (indexM p).isSome && decide ((indexM p).getD 0 < vs.length)) := rfl
    have hko : kidOf s ns k p = (indexM p).bind (fun n => x.kids[n]?) := by
      unfold kidOf kidAt
      rw [h1]
      simp only
      rw [if_pos h2]
    rw [hko, hb]
    simp only
    cases indexM p with
    | none => exact ⟨(fun j h => by cases h), fun _ => rfl⟩
    | some n =>
      simp only [Option.bind_some, Option.getD_some, Option.isSome_some, Bool.true_and, Int.toNat_natCast, decide_eq_true_eq, decide_eq_false_iff_not]
      refine ⟨fun j h => ?_, fun h => ?_⟩
      · obtain ⟨hn, rfl⟩ := List.getElem?_eq_some_iff.1 h
        have h7 := h6 n hn
        rw [getD_at _ _ hn, getD_at _ _ (show n < vs.length by omega)] at h7
        exact ⟨_, _, _, by omega, List.getElem?_eq_getElem (show n < vs.length by omega), h7⟩
      · have := List.getElem?_eq_none_iff.1 h
        omega
  | @obj d k x ks vs cs h1 h2 h3 h4 h5 h6 h7 h8 h9 =>
    have hb : belowM (.mk 6 [] ks vs) p = (ixI ks p, decide (0 ≤ ixI ks p)) := rfl
    have hko : kidOf s ns k p = (ixOf ks p).bind (fun n => x.kids[n]?) := by
      unfold kidOf kidAt
      rw [h1]
      simp only
      rw [if_neg (by omega), if_pos h2, kidKs_of h3 h8]
    rw [hko, hb]
    unfold ixI
    cases hx : ixOf ks p with
    | none => exact ⟨(fun j h => by cases h), fun _ => rfl⟩
    | some n =>
      obtain ⟨hn, _⟩ := ixOf_some hx
      simp only [Option.bind_some, Int.toNat_natCast, decide_eq_true_eq, decide_eq_false_iff_not]
      refine ⟨fun j h => ?_, fun h => ?_⟩
      · obtain ⟨hn2, rfl⟩ := List.getElem?_eq_some_iff.1 h
        have h10 := h9 n hn2
        rw [getD_at _ _ hn2, getD_at _ _ (show n < vs.length by omega)] at h10
        exact ⟨_, _, _, by omega, List.getElem?_eq_getElem (show n < vs.length by omega), h10⟩
      · have := List.getElem?_eq_none_iff.1 h
        omega
/-- a path leads alike -/
theorem at_get {s : ByteArray} {ns : List JN} : ∀ (p : List Bs) {d k : Nat} {v : Vl} {c : Nat}, Rv s ns d k v c → (∀ j, atM s ns p k = some j → ∃ d' w c', pgetM p v = some w ∧ Rv s ns d' j w c') ∧ (atM s ns p k = none → pgetM p v = none)
  | [], d, k, v, c, h => ⟨(fun j hj => by cases hj; exact ⟨_, _, _, rfl, h⟩), fun hj => by cases hj⟩
  | x :: p, d, k, v, c, h => by
    obtain ⟨h1, h2⟩ := kid_below h x
    rw [atM, pgetM]
    cases hk : kidOf s ns k x with
    | none => rw [h2 hk]; exact ⟨(fun j hj => by cases hj), fun _ => rfl⟩
    | some i =>
      obtain ⟨w, d', c', e1, e2, e3⟩ := h1 i hk
      rw [if_pos e1, e2]
      exact at_get p e3
theorem at_find {s : ByteArray} {ns : List JN} {v : Vl} {c : Nat} (h : Rv s ns 32 0 v c) (hc : c ≤ 4096) (p : List Bs) : (∀ j, atP s ns p = some j → ∃ d' w c', pfindM v p = some w ∧ Rv s ns d' j w c') ∧ (atP s ns p = none → pfindM v p = none) := by
  obtain ⟨_, ho⟩ := read_right h hc
  obtain ⟨h1, h2⟩ := at_get p h
  unfold atP pfindM
  by_cases hg : pgoodB p = true
  · rw [if_pos hg, if_pos ⟨hg, ho⟩]; exact ⟨h1, h2⟩
  · rw [if_neg hg, if_neg (fun h => hg h.1)]; exact ⟨(fun j h => by cases h), fun _ => rfl⟩
/-! ### alone -/
theorem Kds.from_ {s : ByteArray} {ns : List JN} {ob : Bool} {k a : Nat} {kids : List Nat} {pcs : List (Nat × Nat)} {m : Nat} (h : Kds s ns ob k a kids pcs m) : a ≤ m ∧ ∀ j ∈ kids, ∃ p : Nat × Nat, a ≤ p.1 ∧ KidIn ns ob k j p := by
  induction h with
  | nil => exact ⟨Nat.le_refl _, fun j hj => by cases hj⟩
  | @snoc kids pcs m j t h1 h2 h3 h4 ih =>
    refine ⟨by omega, fun q hq' => ?_⟩
    rcases List.mem_append.1 hq' with h | h
    · exact ih.2 q h
    · rw [List.mem_singleton] at h
      subst h
      exact ⟨(m, t), ih.1, h4⟩
theorem obj_key {s : ByteArray} {ns : List JN} {i j : Nat} {x y : JN} (hT : NodeOk s ns i x) (h6 : x.kd = 6) (hj : j ∈ x.kids) (hy : ns[j]? = some y) : x.a < y.ka := by
  obtain ⟨m, h1, _⟩ := hT.obj h6
  obtain ⟨p, h2, _, y', h3, h4, _⟩ := h1.from_.2 j hj
  rw [hy] at h3
  cases h3
  have := (h4 rfl).1
  omega
theorem getD_ext {α : Type} (z : α) (a b : List α) (hl : a.length = b.length) (h : ∀ i, i < a.length → a.getD i z = b.getD i z) : a = b := by
  apply List.ext_getElem hl
  intro i h1 h2
  have := h i h1
  rw [getD_at _ _ h1, getD_at _ _ h2] at this
  exact this
theorem rv_alone {s : ByteArray} {ns cs : List JN} {i : Nat} {x : JN} (hT : ∀ i x, ns[i]? = some x → NodeOk s ns i x) (hab : x.a ≤ x.b) (hb : x.b ≤ s.size) (hA : Alone i x ns cs) {d j : Nat} {v : Vl} {c : Nat} (h : Rv (s.extract x.a x.b) cs d j v c) : ∀ {d' : Nat} {w : Vl} {c' : Nat}, Rv s ns d' (i + j) w c' → v = w := by
  have hz : (s.extract x.a x.b).size = x.b - x.a := by rw [ByteArray.size_extract]; omega
  have hxx : ∀ j, j < x.b - x.a → byt (s.extract x.a x.b) j = byt s (x.a + j) := fun j hj => byt_sub s x.a x.b j hb (by omega)
  have hby : ∀ a b A B, a ≤ b → b ≤ x.b - x.a → A = x.a + a → B = x.a + b → sub (s.extract x.a x.b) a b = sub s A B ∧ keyTx (s.extract x.a x.b) a b = keyTx s A B := by
    rintro a b A B h1 h2 rfl rfl
    have he : ∀ j, j < x.a + b - (x.a + a) → byt (s.extract x.a x.b) (a + j) = byt s (x.a + a + j) := fun j hj => by rw [hxx _ (by omega), Nat.add_assoc]
    have e : a + (x.a + b - (x.a + a)) = b := by omega
    have k1 := sub_same (s := s) (t := s.extract x.a x.b) (p := x.a + a) (q := a) (e := x.a + b) (by omega) (by omega) (by omega) he
    have k2 := key_shift (s := s) (t := s.extract x.a x.b) (p := x.a + a) (q := a) (e := x.a + b) (by omega) (by omega) (by omega) he
    rw [e] at k1 k2
    exact ⟨k1, k2⟩
  induction h with
  | @leaf d k y h1 h2 h3 =>
    intro d' w c' h
    obtain ⟨w0, g1, g2, g3, g4, g5, g6⟩ := hA.at_ k y h1
    obtain ⟨k1, k2, _, _, _, hkd⟩ := h2
    cases h with
    | leaf e1 e2 e3 =>
      rw [g1] at e1
      cases e1
      obtain ⟨q1, q2⟩ := hby y.a y.b w0.a w0.b (by omega) (by omega) (by omega) (by omega)
      unfold leafV
      rw [g2, q1, q2]
    | arr e1 e2 => rw [g1] at e1; cases e1; omega
    | obj e1 e2 => rw [g1] at e1; cases e1; omega
  | @arr d k y vs us h1 h2 h3 h4 h5 h6 ih =>
    intro d' w c' h
    obtain ⟨w0, g1, g2, g3, g4, g5, g6⟩ := hA.at_ k y h1
    have hkid : ∀ q, q < y.kids.length → w0.kids.getD q 0 = i + y.kids.getD q 0 := fun q hq' => by
      have := g6 q _ (List.getElem?_eq_getElem hq')
      rw [List.getD_eq_getElem?_getD, this, getD_at _ _ hq', Option.getD_some]
      omega
    cases h with
    | leaf e1 e2 e3 => rw [g1] at e1; cases e1; obtain ⟨_, _, _, _, _, h⟩ := e2; omega
    | @arr _ _ z vs' us' e1 e2 e3 e4 e5 e6 =>
      rw [g1] at e1
      cases e1
      have e : vs = vs' := getD_ext zV _ _ (by omega) (fun q hq' => ih q (by omega) (by
        have := e6 q (by omega)
        rwa [hkid q (by omega)] at this))
      rw [e]
    | obj e1 e2 => rw [g1] at e1; cases e1; omega
  | @obj d k y ks vs us h1 h2 h3 h4 h5 h6 h7 h8 h9 ih =>
    intro d' w c' h
    obtain ⟨w0, g1, g2, g3, g4, g5, g6⟩ := hA.at_ k y h1
    have hkid : ∀ q, q < y.kids.length → w0.kids.getD q 0 = i + y.kids.getD q 0 := fun q hq' => by
      have := g6 q _ (List.getElem?_eq_getElem hq')
      rw [List.getD_eq_getElem?_getD, this, getD_at _ _ hq', Option.getD_some]
      omega
    cases h with
    | leaf e1 e2 e3 => rw [g1] at e1; cases e1; obtain ⟨_, _, _, _, _, h⟩ := e2; omega
    | arr e1 e2 => rw [g1] at e1; cases e1; omega
    | @obj _ _ z ks' vs' us' e1 e2 e3 e4 e5 e6 e7 e8 e9 =>
      rw [g1] at e1
      cases e1
      have e : vs = vs' := getD_ext zV _ _ (by omega) (fun q hq' => ih q (by omega) (by
        have := e9 q (by omega)
        rwa [hkid q (by omega)] at this))
      have e' : ks = ks' := getD_ext [] _ _ (by omega) (fun q hq' => by
        obtain ⟨y', a1, a2, a3⟩ := h8 q (by omega)
        obtain ⟨w', b1, b2, b3⟩ := e8 q (by omega)
        have hkq := obj_key (hT _ _ g1) e2 (by rw [getD_at _ _ (show q < w0.kids.length by omega)]; exact List.getElem_mem _) b1
        rw [hkid q (by omega)] at b1
        have hpos := h6 q (by omega)
        have hk := hA.ky _ y' w' (by omega) a1 b1
        obtain ⟨a4, a5, _⟩ := a2
        obtain ⟨b4, _, _⟩ := b2
        unfold KR at hk
        simp only at hk
        rw [a3, b3]
        exact (hby y'.ka y'.kb w'.ka w'.kb (by omega) (by omega) (by omega) (by omega)).2)
      rw [e, e']
/-- a node's bytes, read alone -/
theorem read_alone {s : ByteArray} {ns : List JN} (h : jparseM s = .inr ns) (h4 : s.size ≤ 4096) {i : Nat} {x : JN} {d c : Nat} {w : Vl} (hi : ns[i]? = some x) (hr : Rv s ns d i w c) : x.a ≤ x.b ∧ x.b ≤ s.size ∧ ∃ cs, jparseM (s.extract x.a x.b) = .inr cs ∧ Rv (s.extract x.a x.b) cs 32 0 w cs.length := by
  obtain ⟨h1, h2, cs, h3, hA⟩ := alone_ok h h4 hi
  obtain ⟨v, hv⟩ := (jparseM_rv h3).1
  have e := rv_alone (jparseM_whole h).ok h1 h2 hA hv (by rw [Nat.add_zero]; exact hr)
  exact ⟨h1, h2, cs, h3, e ▸ hv⟩
end Go.Proofs.YtnlkokgekjlmmaaGreatDoor
