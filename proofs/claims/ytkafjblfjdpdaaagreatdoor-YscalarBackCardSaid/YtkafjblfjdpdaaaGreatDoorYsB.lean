/-
  PLAIN MATHEMATICS: a value's text with any way to write strings; made safe, it is read as that value.
-/
import Derived.Test.YtkafjblfjdpdaaaGreatDoorYsA
namespace Go.Proofs.YtkafjblfjdpdaaaGreatDoor
open Go.RowKit
def memQ (Q : Bs → Bs) (k x : Bs) : Bs := Q k ++ (58 :: x)
mutual
def prQ (Q : Bs → Bs) : Vl → Bs
  | .mk k t ks is =>
    if k = 1 then [110, 117, 108, 108] else if k = 4 then Q t else if k = 5 then listB false 0 0 91 93 (prQs Q is)
    else if k = 6 then listB false 0 0 123 125 (List.zipWith (memQ Q) ks (prQs Q is)) else t
def prQs (Q : Bs → Bs) : List Vl → List Bs
  | [] => []
  | x :: r => prQ Q x :: prQs Q r
end
theorem prQs_map (Q : Bs → Bs) : ∀ l : List Vl, prQs Q l = l.map (prQ Q)
  | [] => rfl
  | x :: l => by simp only [prQs, List.map_cons, prQs_map Q l]
theorem prQ_mk (Q : Bs → Bs) (k : Int) (t : Bs) (ks : List Bs) (is : List Vl) : prQ Q (.mk k t ks is) =
    if k = 1 then [110, 117, 108, 108] else if k = 4 then Q t else if k = 5 then listB false 0 0 91 93 (is.map (prQ Q))
    else if k = 6 then listB false 0 0 123 125 (List.zipWith (memQ Q) ks (is.map (prQ Q))) else t := by
  simp only [prQ, prQs_map]
theorem print_valQ {Q : Bs → Bs} (hQ : Quo Q) {T : ByteArray} : ∀ v : Vl, Rgt v → ∀ (d a : Nat), v.depth ≤ d → At T a (prQ Q v) → a ≤ T.size → Term T (a + (prQ Q v).length) → ∃ toks, ValT T d a (prQ Q v) v toks := Vl.ind (fun k t ks is ih h d a hd hat ha hT => by
  obtain ⟨hn, h7⟩ := h.here
  have hit : ∀ x ∈ is, Rgt x := fun x hx => by
    unfold Rgt at h ⊢
    simp only [Vl.allB, Bool.and_eq_true] at h
    exact Vl.allsB_iff.1 h.2 x hx
  simp only [Vl.depth] at hd
  obtain ⟨d, rfl⟩ : ∃ e, d = e + 1 := ⟨d - 1, by omega⟩
  have hdi : ∀ x ∈ is, x.depth ≤ d := fun x hx => by have := Vl.depths_le x hx; omega
  rw [nodeM_mk] at hn
  rw [prQ_mk] at hat hT ⊢
  by_cases h5 : k = 5
  · subst h5
    rw [if_neg (by decide), if_neg (by decide), if_pos rfl] at hat hT ⊢
    rw [if_pos rfl] at hn
    simp only [Bool.and_eq_true, decide_eq_true_eq] at hn
    obtain ⟨rfl, rfl⟩ := hn
    have em : is.map (prQ Q) = (is.map fun x => (([] : Bs), x)).map fun q => prQ Q q.2 := by rw [List.map_map]; rfl
    have em2 : (is.map fun x => (([] : Bs), x)).map (·.2) = is := by
      rw [List.map_map]
      exact List.map_id is
    rw [em] at hat ⊢
    refine rd_list_ok (T := T) (d := d) false (kt := fun q => prQ Q q.2) (fun q hq' b h1 h2 h3 => ?_) (fun h => by cases h) hat ha (by rw [em2]; rfl) (fun ns' k x e1 e2 e3 e4 => ?_)
    · obtain ⟨x, hx, rfl⟩ := List.mem_map.1 hq'
      obtain ⟨toks, hv⟩ := ih x hx (hit x hx) d b (hdi x hx) h1 h2 h3
      refine ⟨toks, hv.nt, ?_, fun had ns r _ hs => ?_⟩
      · obtain ⟨t, r, e1, e2⟩ := hv.hd
        exact ⟨t, r, e1, (kind_end e2).1⟩
      · obtain ⟨ns', g1, g2, g3, g4⟩ := hv.go (0, 0) ns r hs
        refine ⟨ns', ?_, ⟨g2, g3, (fun h => by cases h), (valueM_ext _ _ _ _ _ _ _ _ g1).at_⟩⟩
        unfold kidM
        rw [if_neg (by simp), g1]
        rfl
    · rw [List.length_map] at e3
      simp only [Vl.size]
      rw [sizes_map, Nat.add_comm 1]
      refine .arr (cs := is.map Vl.size) e1 e2 e3.symm (by rw [List.length_map, e3]) (fun i hi => (e4 i (by rw [List.length_map]; omega)).1) (fun i hi => ?_)
      have := (e4 i (by rw [List.length_map]; omega)).2.1
      rw [getD_at _ _ (show i < is.length by omega), getD_at _ _ (show i < (is.map Vl.size).length by rw [List.length_map]; omega), List.getElem_map]
      simpa using this
  · rw [if_neg h5] at hn
    by_cases h6 : k = 6
    · subst h6
      rw [if_neg (by decide), if_neg (by decide), if_neg (by decide), if_pos rfl, zip_texts] at hat hT ⊢
      rw [if_pos rfl] at hn
      unfold membersM at hn
      simp only [Bool.and_eq_true, decide_eq_true_eq, List.all_eq_true] at hn
      obtain ⟨rfl, hkl, _, hval, hnd⟩ := hn
      have e1z : (ks.zip is).map (·.1) = ks := by rw [← List.unzip_fst, List.unzip_zip hkl]
      have e2z : (ks.zip is).map (·.2) = is := by rw [← List.unzip_snd, List.unzip_zip hkl]
      have hzl : (ks.zip is).length = is.length := by rw [List.length_zip, hkl]; omega
      refine rd_list_ok (T := T) (d := d) true (kt := fun q => memQ Q q.1 (prQ Q q.2)) (fun q hq' b h1 h2 h3 => ?_) (fun _ => by rw [e1z]; exact hnd) hat ha (by rw [e2z]; rfl) (fun ns' k x e1 e2 e3 e4 => ?_)
      · have hqk : q.1 ∈ ks := by rw [← e1z]; exact List.mem_map_of_mem hq'
        have hqi : q.2 ∈ is := by rw [← e2z]; exact List.mem_map_of_mem hq'
        have hqv := hval _ hqk
        have em : memQ Q q.1 (prQ Q q.2) = Q q.1 ++ (58 :: prQ Q q.2) := rfl
        rw [em] at h1 h3 ⊢
        have a1 := h1.take
        have o1 := hQ.one T b q.1 hqv a1
        have l1 := a1.le h2
        have kx := hQ.key T b q.1 hqv a1 h2
        have hp := hQ.pos q.1 hqv
        obtain ⟨a2, a3, a4⟩ := h1.skip.cons
        have o2 : oneM T (b + (Q q.1).length) = (7, b + (Q q.1).length + 1, 0) := by unfold oneM; rw [a3]; rfl
        have a5 := a4
        have l2 : b + (Q q.1).length + 1 ≤ T.size := by omega
        have hlen : b + (Q q.1 ++ (58 :: prQ Q q.2)).length = b + (Q q.1).length + 1 + (prQ Q q.2).length := by
          simp only [List.length_append, List.length_cons]; omega
        rw [hlen] at h3
        obtain ⟨toks, hv⟩ := ih q.2 hqi (hit _ hqi) d _ (hdi _ hqi) a5 l2 h3
        refine ⟨(8, b, b + (Q q.1).length) :: (7, b + (Q q.1).length, b + (Q q.1).length + 1) :: toks, fun m hm => ?_, ⟨_, _, rfl, (show (8 : Nat) ≠ jendM true by decide)⟩, fun had ns r hf hs => ?_⟩
        · rw [hlen] at hm
          exact NT_at (by omega) o1 (by decide) (NT_at a2 o2 (by decide) (hv.nt _ hm))
        · obtain ⟨ns', g1, g2, g3, y, g4, g5, g6⟩ := hv.go (b, b + (Q q.1).length) ns r hs
          refine ⟨ns', ?_, ⟨g2, g3, (fun _ => ⟨y, g4, by rw [g5, g6]; exact ⟨by show b < b + _; omega, l1, o1⟩, by rw [g5, g6]; exact kx.symm⟩), (valueM_ext _ _ _ _ _ _ _ _ g1).at_⟩⟩
          unfold kidM
          rw [if_pos rfl, if_pos rfl]
          simp only [List.cons_append]
          rw [@takeM_yes T.size 8 8 (8, b, b + (Q q.1).length) ((7, b + (Q q.1).length, b + (Q q.1).length + 1) :: (toks ++ r)) (.inl rfl)]
          simp only
          rw [kx, if_neg (hf rfl), @takeM_yes T.size 7 7 (7, b + (Q q.1).length, b + (Q q.1).length + 1) (toks ++ r) (.inl rfl)]
          simp only
          rw [g1]
      · rw [hzl] at e3
        simp only [Vl.size]
        rw [sizes_map, Nat.add_comm 1]
        have hz1 : ∀ i (hi : i < (ks.zip is).length), ((ks.zip is)[i]).1 = ks.getD i [] ∧ ((ks.zip is)[i]).2 = is.getD i zV := fun i hi => by
          rw [getD_at _ _ (show i < ks.length by omega), getD_at _ _ (show i < is.length by omega), List.getElem_zip]
          exact ⟨rfl, rfl⟩
        refine .obj (cs := is.map Vl.size) e1 e2 (by omega) e3.symm (by rw [List.length_map, e3]) (fun i hi => (e4 i (by omega)).1) hnd (fun i hi => ?_) (fun i hi => ?_)
        · obtain ⟨y, y1, y2, y3⟩ := (e4 i (by omega)).2.2 rfl
          rw [(hz1 i (by omega)).1] at y3
          exact ⟨y, y1, y2, y3⟩
        · have := (e4 i (by omega)).2.1
          rw [(hz1 i (by omega)).2] at this
          rw [getD_at _ _ (show i < (is.map Vl.size).length by rw [List.length_map]; omega), List.getElem_map]
          rwa [getD_at _ _ (show i < is.length by omega)] at this ⊢
    · rw [if_neg h6] at hn
      simp only [Bool.and_eq_true, decide_eq_true_eq] at hn
      obtain ⟨⟨rfl, rfl⟩, hsc⟩ := hn
      have hs1 : (Vl.mk k t [] []).size = 1 := rfl
      unfold scalarM at hsc
      by_cases h1 : k = 1
      · subst h1
        rw [if_pos rfl] at hsc hat hT ⊢
        have ht : t = [] := by simpa using hsc
        subst ht
        exact rd_leaf_ok (by decide) (one_null hat ha hT) (hat.le ha) (.inl rfl) (fun key => rfl) hs1
      · rw [if_neg h1] at hsc hat hT ⊢
        by_cases h2 : k = 2
        · subst h2
          rw [if_pos rfl] at hsc
          rw [if_neg (by decide), if_neg (by decide), if_neg (by decide)] at hat hT ⊢
          have hlv : ∀ (kk : Nat) key, kindM kk = 2 → leafV T (leafN (kk, a, a + t.length) key) = .mk 2 t [] [] := fun kk key hk => by
            have e : (leafN (kk, a, a + t.length) key).kd = 2 := hk
            unfold leafV
            rw [e, if_neg (by decide), if_pos rfl]
            show Vl.mk 2 (T.extract a (a + t.length)).data.toList [] [] = _
            rw [at_sub hat ha, st_list]
          simp only [Bool.or_eq_true, decide_eq_true_eq] at hsc
          rcases hsc with rfl | rfl
          · exact rd_leaf_ok (k := 10) (by decide) (one_true hat ha hT) (hat.le ha) (.inr (.inl rfl)) (fun key => hlv 10 key rfl) hs1
          · exact rd_leaf_ok (k := 11) (by decide) (one_false hat ha hT) (hat.le ha) (.inr (.inl rfl)) (fun key => hlv 11 key rfl) hs1
        · rw [if_neg h2] at hsc
          by_cases h3 : k = 3
          · subst h3
            rw [if_pos rfl] at hsc
            rw [if_neg (by decide), if_neg (by decide), if_neg (by decide)] at hat hT ⊢
            unfold decM at hsc
            simp only [Bool.and_eq_true, decide_eq_true_eq] at hsc
            obtain ⟨q1, q2⟩ := one_num hsc.1 hat ha hT
            refine rd_leaf_ok q1 q2 (hat.le ha) (.inr (.inr (.inl rfl))) (fun key => ?_) hs1
            show Vl.mk 3 (textM (parseM (T.extract a (a + t.length)).data.toList).1) [] [] = _
            rw [at_sub hat ha, st_list, hsc.2]
          · rw [if_neg h3] at hsc
            by_cases h4 : k = 4
            · subst h4
              rw [if_pos rfl] at hsc hat hT ⊢
              have hp := hQ.pos t hsc
              exact rd_leaf_ok (by omega) (hQ.one T a t hsc hat) (hat.le ha) (.inr (.inr (.inr rfl))) (fun key => (quo_str hQ key hsc hat ha).2) hs1
            · rw [if_neg h4, if_neg h7] at hsc
              cases hsc)
theorem print_readQ {Q : Bs → Bs} (hQ : Quo Q) {v : Vl} (h : rightM v = true) (hs : (prQ Q v).length ≤ 65536) : ∃ ns, jparseM (st (prQ Q v)) = .inr ns ∧ Rv (st (prQ Q v)) ns 32 0 v ns.length := by
  unfold rightM at h
  simp only [Bool.and_eq_true, decide_eq_true_eq] at h
  obtain ⟨h1, h2, h3⟩ := h
  have hz := st_size (prQ Q v)
  obtain ⟨toks, hv⟩ := print_valQ hQ (T := st (prQ Q v)) v h3 32 0 h2 ⟨[], by rw [st_list, List.append_nil]; rfl⟩ (Nat.zero_le _) (.inl (by rw [Nat.zero_add]; exact hz.symm))
  obtain ⟨ns', e1, e2, e3, _⟩ := hv.go (0, 0) [] [] (by simpa using h1)
  have hn := hv.nt [] (by rw [Nat.zero_add, ← hz]; exact NT_end)
  rw [List.append_nil] at e1 hn
  refine ⟨ns', jparse_inr (by rw [hz]; exact hs) hn e1, ?_⟩
  rw [e3]
  simpa using e2
theorem num_safe {c : UInt8} (h : numD c = true) : c ≠ 127 ∧ c ≠ 35 := by
  constructor
  · intro hc; rw [hc] at h; exact absurd h (by decide)
  · intro hc; rw [hc] at h; exact absurd h (by decide)
theorem decM_num {t : Bs} (h : decM t = true) : t.all numD = true ∧ ∃ c r, t = c :: r ∧ (c = 45 ∨ isDig c = true) := by
  unfold decM at h
  simp only [Bool.and_eq_true, decide_eq_true_eq] at h
  cases hs : splitM t with
  | none =>
    have h1 := h.1
    unfold parseM at h1
    rw [hs] at h1
    exact absurd h1 (show ¬ ((2 : Int) = 0) by decide)
  | some q => exact split_num hs
theorem qtB_first (t r : Bs) : qtB t ≠ 35 :: r := by
  intro h
  unfold qtB quoteM at h
  split at h
  · have : (34 : UInt8) = 35 := (List.cons.inj h).1
    exact absurd this (by decide)
  · cases h
theorem safe_qt (p : UInt8) (t : Bs) : safeL p (qtB t) = qtS t := safe_any p 0 (qtB_first t)
theorem safe_flat {α : Type} {f g : α → Bs} : ∀ (l : List α), (∀ x ∈ l, ∀ p, safeL p (f x) = g x) → ∀ p, safeL p ((l.map f).flatMap fun y => 44 :: (([] : Bs) ++ y)) = (l.map g).flatMap fun y => 44 :: (([] : Bs) ++ y)
  | [], _, _ => rfl
  | x :: l, h, p => by
    simp only [List.map_cons, List.flatMap_cons, List.nil_append, List.cons_append]
    have h1 := fun p => safe_flat l (fun y hy => h y (List.mem_cons_of_mem _ hy)) p
    simp only [List.nil_append] at h1
    rw [safeL, if_neg (by decide), if_neg (fun y => absurd y.1 (by decide)), safe_app, h x (by simp), h1]
    rfl
theorem safe_list {α : Type} {f g : α → Bs} (l : List α) (h : ∀ x ∈ l, ∀ p, safeL p (f x) = g x) (o c : UInt8) (ho : o ≠ 127 ∧ o ≠ 35) (hc : c ≠ 127 ∧ c ≠ 35) (n lev : Nat) (p : UInt8) :
    safeL p (listB false n lev o c (l.map f)) = listB false 0 0 o c (l.map g) := by
  have hs1 : ∀ q, safeL q [c] = [c] := fun q => safe_no q (fun x hx => by rw [List.mem_singleton] at hx; rw [hx]; exact hc)
  have e : ∀ m k, lnB false m k = [] := fun m k => rfl
  unfold listB
  simp only [e, ite_self, List.append_nil]
  rw [safeL, if_neg ho.1, if_neg (fun x => ho.2 x.1), safe_app, hs1]
  cases l with
  | nil => rfl
  | cons x l =>
    simp only [List.map_cons, commaB, List.nil_append]
    have h1 := fun p => safe_flat l (fun y hy => h y (List.mem_cons_of_mem _ hy)) p
    simp only [List.nil_append] at h1
    rw [safe_app, h x (by simp), h1]
    rfl
theorem safe_prB (n : Nat) : ∀ v : Vl, Rgt v → ∀ (lev : Nat) (p : UInt8), safeL p (prB false n lev v) = prQ qtS v := Vl.ind (fun k t ks is ih h lev p => by
  obtain ⟨hn, h7⟩ := h.here
  have hit := h.item
  rw [nodeM_mk] at hn
  rw [prB_mk, prQ_mk]
  by_cases h1 : k = 1
  · rw [if_pos h1, if_pos h1]
    exact safe_no p (by decide)
  rw [if_neg h1, if_neg h1]
  by_cases h4 : k = 4
  · rw [if_pos h4, if_pos h4]
    exact safe_qt p t
  rw [if_neg h4, if_neg h4]
  by_cases h5 : k = 5
  · rw [if_pos h5, if_pos h5]
    exact safe_list is (fun x hx q => ih x hx (hit x hx) (lev + 1) q) 91 93 (by decide) (by decide) n lev p
  rw [if_neg h5] at hn ⊢
  rw [if_neg h5]
  by_cases h6 : k = 6
  · rw [if_pos h6, if_pos h6, zip_texts, zip_texts]
    refine safe_list (ks.zip is) (fun q hq r => ?_) 123 125 (by decide) (by decide) n lev p
    have hi : q.2 ∈ is := (List.of_mem_zip hq).2
    have e : memB false q.1 (prB false n (lev + 1) q.2) = qtB q.1 ++ (58 :: prB false n (lev + 1) q.2) := by unfold memB; simp
    rw [e, safe_app, safe_qt, safeL, if_neg (by decide), if_neg (fun y => absurd y.1 (by decide)), ih q.2 hi (hit _ hi)]
    rfl
  rw [if_neg h6] at hn ⊢
  rw [if_neg h6]
  simp only [Bool.and_eq_true, decide_eq_true_eq] at hn
  obtain ⟨_, hsc⟩ := hn
  unfold scalarM at hsc
  rw [if_neg h1] at hsc
  by_cases h2 : k = 2
  · rw [if_pos h2] at hsc
    simp only [Bool.or_eq_true, decide_eq_true_eq] at hsc
    rcases hsc with rfl | rfl
    · exact safe_no p (by decide)
    · exact safe_no p (by decide)
  rw [if_neg h2] at hsc
  by_cases h3 : k = 3
  · rw [if_pos h3] at hsc
    refine safe_no p (fun c hc => num_safe (List.all_eq_true.1 (decM_num hsc).1 c hc))
  rw [if_neg h3, if_neg h4, if_neg h7] at hsc
  cases hsc)
theorem safe_read {v : Vl} (h : rightM v = true) (hs : (safeL 0 (prB false 0 0 v)).length ≤ 65536) : ∃ ns, jparseM (st (safeL 0 (prB false 0 0 v))) = .inr ns ∧ Rv (st (safeL 0 (prB false 0 0 v))) ns 32 0 v ns.length := by
  have hr : Rgt v := by
    unfold rightM at h
    simp only [Bool.and_eq_true, decide_eq_true_eq] at h
    exact h.2.2
  rw [safe_prB 0 v hr 0 0] at hs ⊢
  exact print_readQ quo_safe h hs
end Go.Proofs.YtkafjblfjdpdaaaGreatDoor

