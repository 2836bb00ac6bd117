/-
  PLAIN MATHEMATICS: the document's ways to tell trees alike, and to order them, beside the program's.
  WALK: the document's sorted of layer 6: the least key is taken, again and again.
  WALKS: the document's texts, compare, Compare of layer 6.
  WALKS: the document's same, Same, Compare, Sorted, Copy of layer 6.
  WALKS: the document's Sorted, Copy, Same, Compare of layer 6.
  WALK: the law ValueStands.
-/
import Derived.Test.YtnlkokgekjlmmaaGreatDoorVtNT
import Derived.Test.YtnlkokgekjlmmaaGreatDoorVtUB
import Derived.Test.YtnlkokgekjlmmaaGreatDoorVrC
import Derived.Test.YtnlkokgekjlmmaaGreatDoorVuS
namespace Go.Proofs.YtnlkokgekjlmmaaGreatDoor

theorem perm_sub {α : Type} : ∀ (l m : List α), l.Nodup → (∀ x ∈ l, x ∈ m) → l.length = m.length → l.Perm m
  | [], m, _, _, hl => by
    obtain rfl := List.length_eq_zero_iff.1 hl.symm
    exact List.Perm.refl _
  | x :: l, m, hn, hs, hl => by
    obtain ⟨h1, h2⟩ := List.nodup_cons.1 hn
    obtain ⟨a, b, rfl⟩ := List.append_of_mem (hs x List.mem_cons_self)
    refine List.Perm.trans (List.Perm.cons x (perm_sub l (a ++ b) h2 (fun y hy => ?_) (by simp at hl ⊢; omega))) List.perm_middle.symm
    have := hs y (List.mem_cons_of_mem _ hy)
    rcases List.mem_append.1 this with h | h
    · exact List.mem_append.2 (.inl h)
    · rcases List.mem_cons.1 h with rfl | h
      · exact absurd hy h1
      · exact List.mem_append.2 (.inr h)
theorem ixOf_nodup : ∀ {l : List Bs}, l.Nodup → ∀ j (hj : j < l.length), ixOf l l[j] = some j
  | [], _, j, hj => absurd hj (by simp)
  | x :: l, _, 0, _ => by simp [ixOf]
  | x :: l, hn, j + 1, hj => by
    obtain ⟨h1, h2⟩ := List.nodup_cons.1 hn
    have hj' : j < l.length := by simpa using hj
    have hne : x ≠ l[j] := fun e => h1 (e ▸ List.getElem_mem hj')
    simp only [List.getElem_cons_succ]
    unfold ixOf
    rw [if_neg hne, ixOf_nodup h2 j hj']
    rfl
theorem zip_fst {β : Type} {ks : List Bs} {l : List β} (h : ks.length = l.length) : (ks.zip l).map (·.1) = ks := by rw [List.map_fst_zip (by omega)]
theorem zip_nodup {β : Type} {ks : List Bs} {l : List β} (h : ks.length = l.length) (hn : ks.Nodup) : (ks.zip l).Nodup := by
  have h1 : ((ks.zip l).map (·.1)).Nodup := by rw [zip_fst h]; exact hn
  have h2 := List.pairwise_map.1 h1
  exact h2.imp (fun h e => h (by rw [e]))
theorem isort_eq {β : Type} {l m : List (Bs × β)} (hl : (l.map (·.1)).Nodup) (hp : l.Perm m) : isort cmpB l = isort cmpB m := by
  have hm : (m.map (·.1)).Nodup := (hp.map (·.1)).nodup_iff.1 hl
  refine sorted_uniq (fun a b => cmpB a.1 b.1 < 0) (fun a b h1 h2 => ?_) _ _ ?_ (isort_strict hl) (isort_strict hm)
  · have := ordr_cmpB.swap a.1 b.1 trivial trivial; omega
  · exact (isort_perm cmpB l).trans (hp.trans (isort_perm cmpB m).symm)
theorem same_obj {t t' : Bs} {ks ks' : List Bs} {is is' : List Vl} (h : Good (.mk 6 t ks is)) (h' : Good (.mk 6 t' ks' is')) :
    sortV (.mk 6 t ks is) = sortV (.mk 6 t' ks' is') ↔ t = t' ∧ is.length = is'.length ∧ ∀ i (hi : i < is.length) (hk : i < ks.length), ∃ j, ∃ hj : j < is'.length, ixOf ks' ks[i] = some j ∧ sortV is[i] = sortV is'[j] := by
  obtain ⟨h1, _, h2⟩ := h.obj rfl
  obtain ⟨h1', _, h2'⟩ := h'.obj rfl
  have e1 : ks.length = (is.map sortV).length := by rw [List.length_map]; exact h1
  have e1' : ks'.length = (is'.map sortV).length := by rw [List.length_map]; exact h1'
  rw [sortV_six, sortV_six]
  constructor
  · intro he
    injection he with _ e2 e3 e4
    have hL : isort cmpB (ks.zip (is.map sortV)) = isort cmpB (ks'.zip (is'.map sortV)) := by rw [← zip_own (isort cmpB (ks.zip (is.map sortV))), e3, e4, zip_own]
    have hp : (ks.zip (is.map sortV)).Perm (ks'.zip (is'.map sortV)) := (isort_perm cmpB _).symm.trans ((hL ▸ List.Perm.refl _ : (isort cmpB (ks.zip (is.map sortV))).Perm (isort cmpB (ks'.zip (is'.map sortV)))).trans (isort_perm cmpB _))
    have hlen := hp.length_eq
    simp only [List.length_zip, List.length_map] at hlen
    refine ⟨e2, by omega, fun i hi hk => ?_⟩
    have hm : (ks[i], sortV is[i]) ∈ ks.zip (is.map sortV) := List.mem_iff_getElem.2 ⟨i, by simp; omega, by simp⟩
    obtain ⟨j, hj, hje⟩ := List.mem_iff_getElem.1 (hp.mem_iff.1 hm)
    simp only [List.length_zip, List.length_map] at hj
    simp only [List.getElem_zip, List.getElem_map, Prod.mk.injEq] at hje
    have hj' : j < ks'.length := by omega
    refine ⟨j, by omega, ?_, hje.2.symm⟩
    rw [← hje.1]
    exact ixOf_nodup h2' j hj'
  · rintro ⟨et, hl, hall⟩
    have hp : (ks.zip (is.map sortV)).Perm (ks'.zip (is'.map sortV)) := by
      refine perm_sub _ _ (zip_nodup e1 h2) (fun x hx => ?_) (by simp only [List.length_zip, List.length_map]; omega)
      obtain ⟨i, hi, rfl⟩ := List.mem_iff_getElem.1 hx
      simp only [List.length_zip, List.length_map] at hi
      obtain ⟨j, hj, hij, hs⟩ := hall i (by omega) (by omega)
      obtain ⟨hjk, hke, _⟩ := ixOf_some hij
      refine List.mem_iff_getElem.2 ⟨j, by simp; omega, ?_⟩
      simp only [List.getElem_zip, List.getElem_map, Prod.mk.injEq]
      exact ⟨hke, hs.symm⟩
    rw [isort_eq (by rw [zip_fst e1]; exact h2) hp, et]
theorem same_else {k : Int} {t t' : Bs} {ks ks' : List Bs} {is is' : List Vl} (h6 : k ≠ 6) :
    sortV (.mk k t ks is) = sortV (.mk k t' ks' is') ↔ t = t' ∧ is.length = is'.length ∧ ∀ i (hi : i < is.length) (hi' : i < is'.length), sortV is[i] = sortV is'[i] := by
  rw [sortV_else h6, sortV_else h6]
  constructor
  · intro he
    injection he with _ e2 _ e4
    have hl : is.length = is'.length := by have := congrArg List.length e4; simpa using this
    refine ⟨e2, hl, fun i hi hi' => ?_⟩
    have h1 : (is.map sortV)[i]? = (is'.map sortV)[i]? := by rw [e4]
    rw [List.getElem?_map, List.getElem?_map, List.getElem?_eq_getElem hi, List.getElem?_eq_getElem hi'] at h1
    exact Option.some.inj h1
  · rintro ⟨e2, hl, hall⟩
    have : is.map sortV = is'.map sortV := List.ext_getElem (by simpa using hl) (fun i h1 h2 => by
      simp only [List.getElem_map]
      exact hall i (by simpa using h1) (by simpa using h2))
    rw [this, e2]
theorem cmp_less : ∀ a b : Bs, cmpB a b = if Op.bytesLess a b = true then -1 else if Op.bytesLess b a = true then 1 else 0
  | [], [] => by decide
  | [], _ :: _ => rfl
  | _ :: _, [] => rfl
  | x :: a, y :: b => by
    have h := cmp_less a b
    simp only [cmpB, Lib.compareBytes, Op.bytesLess] at h ⊢
    rw [h]
    by_cases h1 : x < y
    · simp [h1]
    · by_cases h2 : y < x
      · have e : x ≠ y := fun e => by subst e; exact h1 h2
        simp [h1, h2, e]
      · have e : x = y := by
          refine UInt8.toNat_inj.1 ?_
          rw [UInt8.lt_iff_toNat_lt] at h1 h2; omega
        subst e
        simp [h1]
theorem less_cmp {a b : Bs} : Op.bytesLess a b = true ↔ cmpB a b < 0 := by
  rw [cmp_less]
  by_cases h : Op.bytesLess a b = true
  · simp [h]
  · by_cases h2 : Op.bytesLess b a = true
    · simp [h, h2]
    · simp [h, h2]
/-! ### sorting by taking the least key, again and again -/
/-- what sorting an object makes, told by any strict row of its keys -/
theorem sort_by {t : Bs} {ks : List Bs} {is : List Vl} {D : List Bs} (h : Good (.mk 6 t ks is)) (hp : D.Perm ks) (hs : D.Pairwise (fun a b => cmpB a b < 0)) :
    sortV (.mk 6 t ks is) = .mk 6 t D (D.map (fun key => sortV (is.getD ((ixOf ks key).getD 0) default))) := by
  obtain ⟨h1, _, h2⟩ := h.obj rfl
  have ez : ks.zip (is.map sortV) = ks.map (fun key => (key, sortV (is.getD ((ixOf ks key).getD 0) default))) := by
    apply List.ext_getElem
    · simp; omega
    · intro i hi1 hi2
      simp only [List.length_zip, List.length_map] at hi1
      have hk : i < ks.length := by omega
      have hi : i < is.length := by omega
      simp only [List.getElem_zip, List.getElem_map, ixOf_nodup h2 i hk, Option.getD_some]
      simp [hi]
  have e : isort cmpB (ks.zip (is.map sortV)) = D.map (fun key => (key, sortV (is.getD ((ixOf ks key).getD 0) default))) := by
    refine sorted_uniq (fun a b => cmpB a.1 b.1 < 0) (fun a b h1 h2 => ?_) _ _ ?_ (isort_strict ?_) ?_
    · have := ordr_cmpB.swap a.1 b.1 trivial trivial; omega
    · refine (isort_perm cmpB _).trans ?_
      rw [ez]
      exact (hp.map _).symm
    · rw [zip_fst (by rw [List.length_map]; exact h1)]; exact h2
    · rw [List.pairwise_map]; exact hs
  rw [sortV_six, e, List.map_map, List.map_map]
  congr 1
  exact List.map_id D
structure Sel (ks D l : List Bs) : Prop where
  perm : (D ++ l).Perm ks
  st : D.Pairwise (fun a b => cmpB a b < 0)
  lt : ∀ d ∈ D, ∀ x ∈ l, cmpB d x < 0
theorem Sel.start (ks : List Bs) : Sel ks [] ks := ⟨List.Perm.refl _, .nil, fun d hd => by cases hd⟩
theorem Sel.step {ks D l : List Bs} (h : Sel ks D l) (hn : ks.Nodup) {m : Nat} (hm : m < l.length) (hl : ∀ j (hj : j < l.length), cmpB l[m] l[j] ≤ 0) : Sel ks (D ++ [l[m]]) (l.eraseIdx m) := by
  have hnl : l.Nodup := (List.nodup_append.1 (h.perm.nodup_iff.2 hn)).2.1
  have he : l.eraseIdx m = l.erase l[m] := by
    rw [List.erase_eq_eraseIdx]
    have h2 : List.idxOf? l[m] l = some m := by
      unfold List.idxOf?
      rw [List.findIdx?_eq_some_iff_getElem]
      refine ⟨hm, by simp, fun j hj h => ?_⟩
      have := (List.getElem_inj hnl).1 (beq_iff_eq.1 h)
      omega
    rw [h2]
  have hp : l.Perm (l[m] :: l.erase l[m]) := List.perm_cons_erase (List.getElem_mem hm)
  have hd : ∀ x ∈ l.erase l[m], cmpB l[m] x < 0 := fun x hx => by
    obtain ⟨h1, h2⟩ := (List.Nodup.mem_erase_iff hnl).1 hx
    obtain ⟨j, hj, rfl⟩ := List.mem_iff_getElem.1 h2
    have := hl j hj
    have h3 : cmpB l[m] l[j] ≠ 0 := fun e => h1 (cmpB_eq e).symm
    omega
  rw [he]
  refine ⟨?_, ?_, ?_⟩
  · rw [List.append_assoc]
    exact (List.Perm.append_left D hp.symm).trans h.perm
  · rw [List.pairwise_append]
    refine ⟨h.st, List.pairwise_singleton _ _, fun d hd x hx => ?_⟩
    rw [List.mem_singleton.1 hx]
    exact h.lt d hd _ (List.getElem_mem hm)
  · intro d hdm x hx
    rcases List.mem_append.1 hdm with hq | hq
    · exact h.lt d hq x (List.mem_of_mem_erase hx)
    · rw [List.mem_singleton.1 hq]; exact hd x hx
theorem same_kind {v w : Vl} (h : v.k ≠ w.k) : sortV v ≠ sortV w := fun e => h (by rw [← sortV_k v, e, sortV_k])
/-- the order of two sorted ones, as the document tells it -/
theorem cmpV_doc {k : Int} {t t' : Bs} {ks ks' : List Bs} {is is' : List Vl} (h : Good (.mk k t ks is)) (h' : Good (.mk k t' ks' is')) (h3 : k ≠ 3) :
    cmpV (.mk k t ks is) (.mk k t' ks' is') = thenM (cmpB t t') (thenM (lexM cmpB ks ks') (lexM cmpV is is')) := by
  have n1 := h.node
  have n2 := h'.node
  rw [nodeM_mk] at n1 n2
  rw [cmpV_same (v := .mk k t ks is) (w := .mk k t' ks' is') rfl]
  show bodyV k (.mk k t ks is) (.mk k t' ks' is') = _
  unfold bodyV
  simp only [Vl.t, Vl.ks, Vl.is]
  rw [if_neg h3]
  have hz : thenM 0 = (fun x => x) := by funext x; unfold thenM; simp
  by_cases h5 : k = 5
  · rw [if_pos h5] at n1 n2 ⊢
    simp only [Bool.and_eq_true, decide_eq_true_eq] at n1 n2
    rw [n1.1, n1.2, n2.1, n2.2, cmpB_self, hz]
    simp [lexM, hz]
  by_cases h6 : k = 6
  · rw [if_neg h5, if_pos h6] at n1 n2
    rw [if_neg h5, if_pos h6]
    simp only [Bool.and_eq_true, decide_eq_true_eq] at n1 n2
    rw [n1.1, n2.1, cmpB_self, hz]
  · rw [if_neg h5, if_neg h6] at n1 n2
    rw [if_neg h5, if_neg h6]
    simp only [Bool.and_eq_true, decide_eq_true_eq] at n1 n2
    rw [n1.1.1, n1.1.2, n2.1.1, n2.1.2]
    simp only [lexM, hz]
    unfold thenM
    by_cases e : cmpB t t' = 0
    · simp [e]
    · simp [e]
end Go.Proofs.YtnlkokgekjlmmaaGreatDoor

namespace Go.Proofs.YtnlkokgekjlmmaaGreatDoor
open Go.RowKit

theorem strC_len (l : List Bs) : (strC l).length = l.length * 1 := by unfold strC; simp
theorem strsIn_sub {w : World} {a : Addr} {l : List Bs} {k : Nat} (h : StrsIn w (some a) l) : StrsIn w (some (a.add k)) (l.drop k) := fun i hi => by
  rw [List.length_drop] at hi
  obtain ⟨b, f, h1, h2⟩ := h (k + i) (by omega)
  cases h1
  refine ⟨b, f + k, by rw [Addr.add_lit], ?_⟩
  rw [List.getElem_drop, Nat.add_assoc]
  exact h2
/-- a key is cut out: what stands ahead of it, and behind it -/
theorem run_cutV {w : World} {ty : TypeId} {o o2 : Option Addr} {cap c2 b m : Nat} {l : List Bs} (hok : (⟨o, cap, l⟩ : SRow).ok w) (hb : b < l.length) (hm : m = l.length - (b + 1)) (hl : l.length ≤ 1000000) (ho2 : 0 < m → o2 = o.map fun q => q.add (b + 1)) :
    ∃ o' cap' w', (Builtin.append_ #[22, 22] ty #[.slice o b b, .slice o2 m c2]).run Tryz.prog w = .ok (.slice o' (b + m) cap') w' ∧ (o' = o ∨ ∃ g, o' = some ⟨g, 0, none⟩ ∧ w.heap.size ≤ g) ∧ (⟨o', cap', l.eraseIdx b⟩ : SRow).ok w' ∧ Below w.heap.size w w' := by
  obtain ⟨i0, hi0, hz0, hz1, hz2⟩ := info_partsV infoSv
  have hlen : (l.eraseIdx b).length = b + m := by rw [List.length_eraseIdx_of_lt hb]; omega
  by_cases h0 : m = 0
  · subst h0
    have he : l.eraseIdx b = l.take b := by
      rw [List.eraseIdx_eq_take_drop_succ, List.drop_eq_nil_of_le (by omega), List.append_nil]
    have hsrc : Src Tryz.prog i0.size 22 (.slice o2 0 c2) 0 [] w := by
      cases o2 with
      | none => exact Src.ofNil w Tryz.underlying22 c2
      | some q => exact Src.ofSlice w Tryz.underlying22 q 0 c2 [] (by simp) (fun j u h => by cases h) (fun u h => by cases h)
    have hrun := run_append_nothing (P := Tryz.prog) w 22 22 ty 9 i0 Tryz.underlying22 hi0 o b b (Nat.le_refl _) (.slice o2 0 c2) hsrc
    refine ⟨o, b, w, hrun, .inl rfl, ⟨by simp only; rw [hlen]; exact Nat.le_refl _, by simp only [maxLen]; omega, ?_⟩, Below.refl _ _⟩
    rw [he]
    intro i hi
    rw [List.length_take] at hi
    obtain ⟨q, f, h1, h2⟩ := hok.rd i (by simp only; omega)
    exact ⟨q, f, h1, by rw [List.getElem_take]; exact h2⟩
  · obtain ⟨q, f, hq1, _⟩ := hok.rd 0 (by simp only; omega)
    simp only at hq1
    subst hq1
    have ho3 := ho2 (by omega)
    simp only [Option.map_some] at ho3
    subst ho3
    have hsub : StrsIn w (some ((⟨q, f, none⟩ : Addr).add (b + 1))) (l.drop (b + 1)) := strsIn_sub hok.rd
    have htk : StrsIn w (some ⟨q, f, none⟩) (l.take b) := fun i hi => by
      rw [List.length_take] at hi
      obtain ⟨q', f', h1, h2⟩ := hok.rd i (by simp only; omega)
      exact ⟨q', f', h1, by rw [List.getElem_take]; exact h2⟩
    obtain ⟨v', w', hrun, hown, hgrow⟩ := run_append_arg_grows (P := Tryz.prog) w 22 ty 9 i0 (.string ⟨#[]⟩) 1 16 Tryz.underlying22 hi0 hz0 hz1 hz2 rfl (by decide) ⟨q, f, none⟩ b b (strC (l.take b)) (by rw [strC_len, List.length_take]; omega) (strsIn_strC htk rfl)
      ((⟨q, f, none⟩ : Addr).add (b + 1)) m c2 (strC (l.drop (b + 1))) (by rw [strC_len, List.length_drop]; omega) (strsIn_strC hsub rfl) (by omega) (by unfold maxLen; omega) (by omega)
    have e1 : strC (l.take b) ++ strC (l.drop (b + 1)) = strC (l.eraseIdx b) := by
      rw [List.eraseIdx_eq_take_drop_succ]; unfold strC; rw [List.map_append]
    rw [e1] at hown
    have hbel : Below w.heap.size w w' := (Below.refl _ w).grown hgrow (Nat.le_refl _) (fun k e => by cases e)
    obtain ⟨n, hn⟩ : ∃ n, b + m = n + 1 := ⟨b + m - 1, by omega⟩
    rw [hn] at hown
    obtain ⟨g, c, rfl⟩ := row_shapeV1 hown
    have hg := (hown.lt g rfl).1
    rw [← hn] at hown hrun
    rw [← hlen] at hown
    exact ⟨_, c, w', hrun, .inr ⟨g, rfl, hg⟩, own_keys (ks := ⟨some ⟨g, 0, none⟩, c, l.eraseIdx b⟩) hown, hbel⟩
theorem step_cutV {ops : Array Oper} {op : Oper} {a : Act} {w : World} {K : Act → World → Prop} {Q : Exit → Act → World → Prop} {E : Prop} (hgd : op.guard = none) (s x : Operand)
    (ho : op.op = .call { callee := .builtin .append, args := #[s, x], argTypes := #[22, 22] })
    {o o2 : Option Addr} {cap c2 b m : Nat} {l : List Bs} (hok : (⟨o, cap, l⟩ : SRow).ok w) (hb : b < l.length) (hm : m = l.length - (b + 1)) (hl : l.length ≤ 1000000)
    (hs : a.eval s = .slice o b b) (hx : a.eval x = .slice o2 m c2) (ho2 : 0 < m → o2 = o.map fun q => q.add (b + 1))
    (hK : ∀ o' cap' w', (o' = o ∨ ∃ g, o' = some ⟨g, 0, none⟩ ∧ w.heap.size ≤ g) → (⟨o', cap', l.eraseIdx b⟩ : SRow).ok w' → Below w.heap.size w w' → K (a.put op.dst (.slice o' (b + m) cap')) w') : if Region.wanted op (yielded ops a.tmps) = true then Oper.wp Tryz.prog op a w K Q else E := by
  have hw : Region.wanted op (yielded ops a.tmps) = true := by simp [Region.wanted, hgd]
  rw [if_pos hw]
  obtain ⟨o', cap', w', hrun, h1, h2, h3⟩ := run_cutV (ty := op.type) (c2 := c2) hok hb hm hl ho2
  unfold Oper.wp
  simp [execOp, ho, resolve, invoke, builtin, hs, hx, hrun, Result.andThen]
  exact hK o' cap' w' h1 h2 h3
/-- a row is copied onto one that holds none -/
theorem wpList_copyV {w : World} {ops : Array Oper} {rest : List Oper} {op : Oper} {a : Act} {Q : Exit → Act → World → Prop} (hgd : op.guard = none) (s x : Operand)
    (ho : op.op = .call { callee := .builtin .append, args := #[s, x], argTypes := #[22, 22] })
    {g : Nat} {o : Option Addr} {cap : Nat} {l : List Bs} (hok : (⟨o, cap, l⟩ : SRow).ok w) (hl : l.length ≤ 1000000)
    (hs : a.eval s = .slice (some ⟨g, 0, none⟩) 0 0) (hx : a.eval x = .slice o l.length cap)
    (hK : ∀ g' cap' w', (g' = g ∨ w.heap.size ≤ g') → (⟨some ⟨g', 0, none⟩, cap', l⟩ : SRow).ok w' → Below w.heap.size w w' → wpList Tryz.prog ops Q rest (a.put op.dst (.slice (some ⟨g', 0, none⟩) l.length cap')) w') : wpList Tryz.prog ops Q (op :: rest) a w := by
  obtain ⟨i0, hi0, hz0, hz1, hz2⟩ := info_partsV infoSv
  refine wpList_plain hgd fun K hK' => ?_
  by_cases h0 : l.length = 0
  · obtain rfl := List.eq_nil_of_length_eq_zero h0
    have hsrc : Src Tryz.prog i0.size 22 (.slice o 0 cap) 0 [] w := by
      cases o with
      | none => exact Src.ofNil w Tryz.underlying22 cap
      | some q => exact Src.ofSlice w Tryz.underlying22 q 0 cap [] (by simp) (fun j u h => by cases h) (fun u h => by cases h)
    have hrun := run_append_nothing (P := Tryz.prog) w 22 22 op.type 9 i0 Tryz.underlying22 hi0 (some ⟨g, 0, none⟩) 0 0 (Nat.le_refl _) (.slice o 0 cap) hsrc
    rw [List.length_nil] at hx hK
    unfold Oper.wp
    simp [execOp, ho, resolve, invoke, builtin, hs, hx, hrun, Result.andThen]
    exact hK' _ _ (hK g 0 w (.inl rfl) ⟨Nat.le_refl _, Nat.zero_le _, StrsIn.nil _ _⟩ (Below.refl _ _))
  · obtain ⟨q, f, hq1, _⟩ := hok.rd 0 (by simp only; omega)
    simp only at hq1
    subst hq1
    obtain ⟨v', w', hrun, hown, hgrow⟩ := run_append_arg_grows (P := Tryz.prog) w 22 op.type 9 i0 (.string ⟨#[]⟩) 1 16 Tryz.underlying22 hi0 hz0 hz1 hz2 rfl (by decide) ⟨g, 0, none⟩ 0 0 [] rfl (fun j u h => by cases h)
      ⟨q, f, none⟩ l.length cap (strC l) (strC_len l) (strsIn_strC hok.rd rfl) (by omega) (by unfold maxLen; omega) (by omega)
    rw [List.nil_append, Nat.zero_add] at hown
    have hbel : Below w.heap.size w w' := (Below.refl _ w).grown hgrow (Nat.le_refl _) (fun k e => by cases e)
    obtain ⟨n, hn⟩ : ∃ n, l.length = n + 1 := ⟨l.length - 1, by omega⟩
    rw [hn] at hown
    obtain ⟨g', c, rfl⟩ := row_shapeV1 hown
    have hg := (hown.lt g' rfl).1
    rw [← hn] at hown hrun
    unfold Oper.wp
    simp [execOp, ho, resolve, invoke, builtin, hs, hx, hrun, Result.andThen]
    exact hK' _ _ (hK g' c w' (.inr hg) (own_keys (ks := ⟨some ⟨g', 0, none⟩, c, l⟩) hown) hbel)
/-- the keys that are left: read, apart from what is written -/
structure LeftI (gw : Nat) (kb ib : Option Nat) (o : Option Addr) (cap : Nat) (l : List Bs) (w : World) : Prop where
  ok : (⟨o, cap, l⟩ : SRow).ok w
  ap : 0 < l.length → ∀ a, o = some a → gw < a.block ∧ kb ≠ some a.block ∧ ib ≠ some a.block
section
variable {gw : Nat} {kb ib : Option Nat} {o : Option Addr} {cap : Nat} {l : List Bs} {w w' : World}
theorem LeftI.grow (h : LeftI gw kb ib o cap l w) (hb : Below w.heap.size w w') : LeftI gw kb ib o cap l w' := ⟨h.ok.grow hb, h.ap⟩
theorem LeftI.wrote (h : LeftI gw kb ib o cap l w) {row : Option Nat} (hg : w.grownBy w' row) (hr : row = kb ∨ row = ib) {kb' ib' : Option Nat} (hk : kb' = kb ∨ kb' = some w.heap.size) (hi : ib' = ib ∨ ib' = some w.heap.size) (j : Nat) (u : Value) :
    LeftI gw kb' ib' o cap l (w'.setCell ⟨gw, j, none⟩ u) := by
  refine ⟨⟨h.ok.le, h.ok.cp, fun i hil => ?_⟩, fun h0 a ha => ?_⟩
  · obtain ⟨b, f, h1, h2⟩ := h.ok.rd i hil
    simp only at hil h1 h2
    obtain ⟨q1, q2, q3⟩ := h.ap (by omega) _ h1
    refine ⟨b, f, h1, ?_⟩
    have hne : some b ≠ row := fun e => by
      rcases hr with hr | hr
      · rw [hr] at e; exact q2 e.symm
      · rw [hr] at e; exact q3 e.symm
    have h3 : w'.cell? ⟨b, f + i, none⟩ = some (.string (st l[i])) := hg.cell h2 hne
    exact (World.cell?_of_block (heap_setCell_other w' ⟨gw, j, none⟩ b u (show b ≠ gw from fun e => by subst e; exact absurd q1 (Nat.lt_irrefl _)))).trans h3
  · obtain ⟨q1, q2, q3⟩ := h.ap h0 a ha
    obtain ⟨b, f, h1, h2⟩ := h.ok.rd 0 (by simpa using h0)
    have hlt := cell_blk h2
    simp only at h1 hlt
    rw [ha] at h1
    obtain rfl := Option.some.inj h1
    simp only at q1 q2 q3 ⊢
    refine ⟨q1, fun e => ?_, fun e => ?_⟩
    · rcases hk with hk | hk
      · rw [hk] at e; exact q2 e
      · rw [hk] at e; have := Option.some.inj e; omega
    · rcases hi with hi | hi
      · rw [hi] at e; exact q3 e
      · rw [hi] at e; have := Option.some.inj e; omega
theorem LeftI.cut (h : LeftI gw kb ib o cap l w) (h0 : 0 < l.length) {o' : Option Addr} {cap' : Nat} {l' : List Bs} (hok : (⟨o', cap', l'⟩ : SRow).ok w') (ho : o' = o ∨ ∃ g, o' = some ⟨g, 0, none⟩ ∧ w.heap.size ≤ g) (hgw : gw < w.heap.size) (hkb : ∀ g, kb = some g → g < w.heap.size) (hib : ∀ g, ib = some g → g < w.heap.size) : LeftI gw kb ib o' cap' l' w' := by
  refine ⟨hok, fun _ a ha => ?_⟩
  rcases ho with rfl | ⟨g, rfl, hg⟩
  · exact h.ap h0 a ha
  · obtain rfl := Option.some.inj ha
    simp only
    exact ⟨by omega, fun e => by have := hkb _ e; omega, fun e => by have := hib _ e; omega⟩
end
/-- what the items' region reads -/
structure SgC (gv : Nat) (cv : Array Value) (b p : Nat) (key : Bs) (ib ip : Nat) (x : Vt) (X : World) : Prop where
  v : Whole X gv 25 cv
  lk : X.cell? ⟨b, p, none⟩ = some (.string (st key))
  it : ItemAt X ib ip x
section
variable {gv : Nat} {cv : Array Value} {b p : Nat} {key : Bs} {ib ip : Nat} {x : Vt} {X X' : World}
theorem SgC.grow (h : SgC gv cv b p key ib ip x X) (hb : Below X.heap.size X X') : SgC gv cv b p key ib ip x X' :=
  ⟨h.v.grow hb, (hb.cell (p := ⟨b, p, none⟩) (cell_blk h.lk)).trans h.lk, h.it.grow hb⟩
theorem SgC.grown (h : SgC gv cv b p key ib ip x X) {row : Option Nat} (hg : X.grownBy X' row) (h1 : some gv ≠ row) (h2 : some b ≠ row) (h3 : some ib ≠ row) : SgC gv cv b p key ib ip x X' :=
  ⟨whole_grownV h.v hg h1, hg.cell h.lk h2, hg.cell h.it.c0 h3, hg.cell h.it.c1 h3, hg.cell h.it.c2 h3, hg.cell h.it.c3 h3⟩
theorem SgC.set (h : SgC gv cv b p key ib ip x X) {g : Nat} (h1 : gv ≠ g) (h2 : b ≠ g) (h3 : ib ≠ g) (j : Nat) (u : Value) : SgC gv cv b p key ib ip x (X.setCell ⟨g, j, none⟩ u) := by
  have q : ∀ (d q : Nat), d ≠ g → (X.setCell ⟨g, j, none⟩ u).cell? ⟨d, q, none⟩ = X.cell? ⟨d, q, none⟩ := fun d q hd => World.cell?_of_block (heap_setCell_other X ⟨g, j, none⟩ d u hd)
  exact ⟨h.v.far (p := ⟨g, j, none⟩) h1 u, (q _ _ h2).trans h.lk, (q _ _ h3).trans h.it.c0, (q _ _ h3).trans h.it.c1, (q _ _ h3).trans h.it.c2, (q _ _ h3).trans h.it.c3⟩
theorem SgC.drew (h : SgC gv cv b p key ib ip x X) : SgC gv cv b p key ib ip x X.drew := h.grow (Below.refl _ _).drew
theorem SgC.cells {k : Int} {t : Bs} {kv ov : Value} (h : SgC gv #[.int .i64 k, .string (st t), kv, ov] b p key ib ip x X) : (X.cell? ⟨gv, 0, none⟩ = some (.int .i64 k) ∧ X.cell? ⟨gv, 1, none⟩ = some (.string (st t)) ∧ X.cell? ⟨gv, 2, none⟩ = some kv ∧ X.cell? ⟨gv, 3, none⟩ = some ov) ∧ X.cell? ⟨b, p, none⟩ = some (.string (st key)) ∧ X.cell? ⟨ib, ip, none⟩ = some (.int .i64 x.k) ∧ X.cell? ⟨ib, ip + 1, none⟩ = some (.string (st x.t)) ∧ X.cell? ⟨ib, ip + 2, none⟩ = some x.ks.v ∧ X.cell? ⟨ib, ip + 3, none⟩ = some x.row :=
  ⟨four_cells h.v, h.lk, h.it.c0, h.it.c1, h.it.c2, h.it.c3⟩
end
/-- one key is least among some -/
def MinAt (l : List Bs) (m n : Nat) : Prop := ∀ q (_ : q < n) (hl : q < l.length) (hm : m < l.length), cmpB l[m] l[q] ≤ 0
theorem MinAt.one (l : List Bs) : MinAt l 0 1 := fun q hq1 hl hm => by
  obtain rfl : q = 0 := by omega
  rw [cmpB_self]
  exact Int.le_refl 0
theorem MinAt.take {l : List Bs} {m j : Nat} (h : MinAt l m j) (hm : m < l.length) (hj : j < l.length) (hl : Op.bytesLess l[j] l[m] = true) : MinAt l j (j + 1) := fun q hq1 hql _ => by
  by_cases e : q = j
  · subst e; rw [cmpB_self]; exact Int.le_refl 0
  · have h1 := less_cmp.1 hl
    have h2 := h q (by omega) hql hm
    exact ordr_cmpB.tr _ _ _ trivial trivial trivial (by omega) h2
theorem MinAt.keep {l : List Bs} {m j : Nat} (h : MinAt l m j) (hj : j < l.length) (hmm : m < l.length) (hl : Op.bytesLess l[j] l[m] = false) : MinAt l m (j + 1) := fun q hq1 hql hm => by
  by_cases e : q = j
  · subst e
    have h1 : ¬ cmpB l[q] l[m] < 0 := fun h1 => by have := less_cmp.2 h1; rw [hl] at this; cases this
    have h2 := ordr_cmpB.swap l[m] l[q] trivial trivial
    omega
  · exact h q (by omega) hql hm
/-- what remake holds between two rounds -/
structure RemO (B : Nat) (W : World) (gv gr gw : Nat) (cv : Array Value) (ov : Value) (od : List Nat) (k : Int) (t : Bs) (kr : SRow) (o : Option Addr) (c : Nat) (ys : List Vt) (w : World) : Prop where
  bl : Below W.heap.size W w
  sz : B ≤ w.heap.size
  hv : Whole w gv 25 cv
  hr : Whole w gr 25 #[.int .i64 0, .string ⟨#[]⟩, .slice none 0 0, .slice none 0 0]
  hw : Whole w gw 25 #[.int .i64 k, .string (st t), kr.v, .slice o ys.length c]
  od : w.ownsRow B 3 1 ov od.length (natC od)
  ks : w.ownsRow B 9 1 kr.v kr.l.length (strC kr.l)
  it : w.ownsRow B 25 4 (.slice o ys.length c) ys.length (vtC ys)
  ch : ∀ y ∈ ys, y.Own 25 9 B (fun g => kr.v.ownBlock ≠ some g ∧ (Value.slice o ys.length c).ownBlock ≠ some g) w
  l0 : W.heap.size ≤ gv ∧ gv < B
  l1 : W.heap.size ≤ gw ∧ gw < B
  l2 : W.heap.size ≤ gr ∧ gr < B
  ne : gv ≠ gw
  nr : gr ≠ gw
section
variable {B : Nat} {W w w' : World} {gv gr gw : Nat} {cv : Array Value} {ov : Value} {od : List Nat} {k : Int} {t : Bs} {kr : SRow} {o : Option Addr} {c : Nat} {ys : List Vt}
theorem RemO.grow (h : RemO B W gv gr gw cv ov od k t kr o c ys w) (hb : Below w.heap.size w w') : RemO B W gv gr gw cv ov od k t kr o c ys w' :=
  ⟨below_trans h.bl hb, Nat.le_trans h.sz hb.size, h.hv.grow hb, h.hr.grow hb, h.hw.grow hb, h.od.kept (grownBy_below hb none) (by cases ov.ownBlock <;> simp), h.ks.kept (grownBy_below hb none) (by cases kr.v.ownBlock <;> simp),
    h.it.kept (grownBy_below hb none) (by cases (Value.slice o ys.length c).ownBlock <;> simp), fun y hy => (h.ch y hy).grow hb, h.l0, h.l1, h.l2, h.ne, h.nr⟩
/-- what is answered, when all rounds are done -/
theorem RemO.out (h : RemO B W gv gr gw cv ov od k t kr o c ys w) : (Vt.mk k t kr o c ys).Own 25 9 B (fun _ => True) w :=
  .mk k t kr o c ys h.ks (fun _ _ => trivial) h.it (fun _ _ => trivial) (fun _i hi => (h.ch _ (List.getElem_mem hi)).kind (fun _ _ => trivial))
/-- one key more -/
theorem RemO.key (h : RemO B W gv gr gw cv ov od k t kr o c ys w) {x : Bs} {o' : Option Addr} {c' : Nat} (hown : w'.ownsRow B 9 1 (.slice o' (kr.l.length + 1) c') (kr.l.length + 1) (strC kr.l ++ [.string (st x)])) (hg : w.grownBy w' kr.v.ownBlock)
    (hat : (Value.slice o' (kr.l.length + 1) c').ownBlock = kr.v.ownBlock ∨ (Value.slice o' (kr.l.length + 1) c').ownBlock = some w.heap.size) :
    RemO B W gv gr gw cv ov od k t ⟨o', c', kr.l ++ [x]⟩ o c ys (w'.setCell ⟨gw, 2, none⟩ (.slice o' (kr.l.length + 1) c')) := by
  have hne : ∀ g, g < B → some g ≠ kr.v.ownBlock := fun g hgB e => by have := (h.ks.lt g e.symm).1; omega
  have hl : (kr.l ++ [x]).length = kr.l.length + 1 := by rw [List.length_append, List.length_singleton]
  have hkv : (SRow.mk o' c' (kr.l ++ [x])).v = .slice o' (kr.l.length + 1) c' := by unfold SRow.v; simp only; rw [hl]
  refine ⟨?_, ?_, (whole_grownV h.hv hg (hne gv h.l0.2)).far h.ne _, (whole_grownV h.hr hg (hne gr h.l2.2)).far h.nr _, ?_, row_setV (h.od.kept hg ?_) h.l1.2 _, ?_, row_setV (h.it.kept hg ?_) h.l1.2 _, fun y hy => ?_, h.l0, h.l1, h.l2, h.ne, h.nr⟩
  · exact below_put (h.bl.grown hg h.bl.size (fun j ej => by have := (h.ks.lt j ej).1; have := h.l0; omega)) h.l1.1 _ _
  · rw [show (w'.setCell ⟨gw, 2, none⟩ (.slice o' (kr.l.length + 1) c')).heap.size = w'.heap.size by simp [World.setCell]]
    exact Nat.le_trans h.sz hg.size
  · have h1 := (whole_grownV h.hw hg (hne gw h.l1.2)).put 2 (.slice o' (kr.l.length + 1) c')
    rw [hkv]
    exact h1
  · exact own_apartV h.od h.ks (by decide)
  · rw [hkv, hl]
    have h1 := row_setV hown h.l1.2 (i := 2) (.slice o' (kr.l.length + 1) c')
    have e : strC (kr.l ++ [x]) = strC kr.l ++ [.string (st x)] := by unfold strC; rw [List.map_append]; rfl
    rw [e]
    exact h1
  · exact own_apartV h.it h.ks (by decide)
  · refine Vt.Own.set (((h.ch y hy).lt.kept hg (fun g e hs => hs.1.1 e)).kind (fun g hs => ?_)) h.l1.2 _
    refine ⟨fun e => ?_, hs.1.2⟩
    rw [hkv] at e
    rcases hat with hat | hat
    · rw [hat] at e; exact hs.1.1 e
    · rw [hat] at e; have := Option.some.inj e; omega
/-- one item more -/
theorem RemO.item (h : RemO B W gv gr gw cv ov od k t kr o c ys w) {x : Vt} {o' : Option Addr} {c' : Nat} (hx : x.Own 25 9 B (fun g => kr.v.ownBlock ≠ some g ∧ (Value.slice o ys.length c).ownBlock ≠ some g) w)
    (hown : w'.ownsRow B 25 4 (.slice o' (ys.length + 1) c') (ys.length + 1) (vtC ys ++ [.int .i64 x.k, .string (st x.t), x.ks.v, x.row])) (hg : w.grownBy w' (Value.slice o ys.length c).ownBlock)
    (hat : (Value.slice o' (ys.length + 1) c').ownBlock = (Value.slice o ys.length c).ownBlock ∨ (Value.slice o' (ys.length + 1) c').ownBlock = some w.heap.size) :
    RemO B W gv gr gw cv ov od k t kr o' c' (ys ++ [x]) (w'.setCell ⟨gw, 3, none⟩ (.slice o' (ys.length + 1) c')) := by
  have hne : ∀ g, g < B → some g ≠ (Value.slice o ys.length c).ownBlock := fun g hgB e => by have := (h.it.lt g e.symm).1; omega
  have hl : (ys ++ [x]).length = ys.length + 1 := by rw [List.length_append, List.length_singleton]
  refine ⟨?_, ?_, (whole_grownV h.hv hg (hne gv h.l0.2)).far h.ne _, (whole_grownV h.hr hg (hne gr h.l2.2)).far h.nr _, ?_, row_setV (h.od.kept hg ?_) h.l1.2 _, row_setV (h.ks.kept hg ?_) h.l1.2 _, ?_, fun y hy => ?_, h.l0, h.l1, h.l2, h.ne, h.nr⟩
  · exact below_put (h.bl.grown hg h.bl.size (fun j ej => by have := (h.it.lt j ej).1; have := h.l0; omega)) h.l1.1 _ _
  · rw [show (w'.setCell ⟨gw, 3, none⟩ (.slice o' (ys.length + 1) c')).heap.size = w'.heap.size by simp [World.setCell]]
    exact Nat.le_trans h.sz hg.size
  · have h1 := (whole_grownV h.hw hg (hne gw h.l1.2)).put 3 (.slice o' (ys.length + 1) c')
    rw [hl]
    exact h1
  · exact own_apartV h.od h.it (by decide)
  · exact own_apartV h.ks h.it (by decide)
  · rw [hl, vtC_snoc]
    exact row_setV hown h.l1.2 _
  · have key : ∀ y : Vt, y.Own 25 9 B (fun g => kr.v.ownBlock ≠ some g ∧ (Value.slice o ys.length c).ownBlock ≠ some g) w → y.Own 25 9 B (fun g => kr.v.ownBlock ≠ some g ∧ (Value.slice o' (ys ++ [x]).length c').ownBlock ≠ some g) (w'.setCell ⟨gw, 3, none⟩ (.slice o' (ys.length + 1) c')) := fun y hy => by
      refine Vt.Own.set ((hy.lt.kept hg (fun g e hs => hs.1.2 e)).kind (fun g hs => ⟨hs.1.1, fun e => ?_⟩)) h.l1.2 _
      rw [hl] at e
      rcases hat with hat | hat
      · rw [hat] at e; exact hs.1.2 e
      · rw [hat] at e; have := Option.some.inj e; omega
    rcases List.mem_append.1 hy with hy | hy
    · exact key y (h.ch y hy)
    · rw [List.mem_singleton.1 hy]; exact key x hx
end
/-- an operation, not looked into -/
def opS (o : Op) : Op := o
def lenV : Value → Nat
  | .slice _ n _ => n
  | _ => 0

set_option maxHeartbeats 16000000 in
set_option maxRecDepth 1000000 in
theorem rsorted_any : ∀ (x : Vt) (W : World), x.Ok W → Good x.m → x.m.size ≤ 1000000 → Calls Tryz.prog 101 #[x.v] W (RemPost (sortV x.m) W) := Vt.ind (fun k t ks o c is ih W hok hgood hsz => by
  obtain ⟨ko, kc, kl⟩ := ks
  have hn := hok.hl
  have hc := hok.hc
  have hkl : kl.length ≤ kc := hok.hks.le
  have hkc : kc ≤ maxLen := hok.hks.cp
  unfold maxLen at hc hkc
  obtain ⟨hb0, hw0, hwR, hw1⟩ := three_boxes W 25 #[.int .i64 k, .string (st t), .slice ko kl.length kc, .slice o is.length c] #[.int .i64 0, .string ⟨#[]⟩, .slice none 0 0, .slice none 0 0] #[.int .i64 k, .string (st t), .slice none 0 0, .slice none 0 0]
  rw [Vt.m_mk] at *
  rw [Vt.v_mk'] at *
  simp only at *
  have hiw : is.length ≤ 1000000 := by
    have h1 := Vl.sizes_length (is.map Vt.m)
    rw [List.length_map] at h1
    simp only [Vl.size] at hsz
    omega
  have HIH := hq (fun (x : Vt) (hx : x ∈ is) V (h : x.Ok V) => ih x hx V h (hgood.items _ (List.mem_map.2 ⟨x, hx, rfl⟩)) (by
    have := Vl.sizes_le x.m (List.mem_map.2 ⟨x, hx, rfl⟩)
    simp only [Vl.size] at hsz
    omega))
  have HOBJ : Hq (k = 6 → kl.length = is.length ∧ kl.Nodup ∧ kl.length ≤ 1000000) := hq (fun h6 => by
    have h := hgood.obj h6
    rw [List.length_map] at h
    exact ⟨h.1, h.2.2, by omega⟩)
  have HNOK : Hq (k ≠ 6 → kl = []) := hq (fun h6 => hgood.nokeys h6)
  have HS6 : Hq (∀ D : List Bs, k = 6 → D.Perm kl → D.Pairwise (fun a b => cmpB a b < 0) → sortV (.mk k t kl (is.map Vt.m)) = .mk k t D (D.map (fun key => sortV ((is.map Vt.m).getD ((ixOf kl key).getD 0) default)))) := hq (fun D h6 h1 h2 => by subst h6; exact sort_by hgood h1 h2)
  have HSE : Hq (k ≠ 6 → sortV (.mk k t kl (is.map Vt.m)) = .mk k t [] ((is.map Vt.m).map sortV)) := hq (fun h6 => sortV_else h6)
  have HP : Hq (∀ (y : Vt) W', y.Own 25 9 W.heap.size (fun _ => True) W' → y.m = sortV (.mk k t kl (is.map Vt.m)) → Below W.heap.size W W' → RemPost (sortV (.mk k t kl (is.map Vt.m))) W (.returned y.v) W') := hq (fun y W' h1 h2 h3 => ⟨y, rfl, h1, h2, h3⟩)
  generalize RemPost (sortV (.mk k t kl (is.map Vt.m))) W = PP at *
  generalize sortV (.mk k t kl (is.map Vt.m)) = SV at *
  have HOK := hq hok
  have HB0 := hq hb0
  have HW0 := hq hw0
  have HW1 := hq hw1
  have HWR := hq hwR
  clear hok ih hb0 hw0 hw1 hwR hgood hsz
  have hkln : kl.length ≤ 1000000 := by
    by_cases h6 : k = 6
    · exact (HOBJ.o h6).2.2
    · rw [HNOK.o h6]; exact Nat.zero_le _
  go_enter Tryz.func101, Tryz.ntmps101
  go_upto_region 2 with fail
  generalize (((W.alloc (.cells #[.int .i64 k, .string (st t), .slice ko kl.length kc, .slice o is.length c] 25)).alloc (.cells #[.int .i64 0, .string ⟨#[]⟩, .slice none 0 0, .slice none 0 0] 25)).alloc (.cells #[.int .i64 k, .string (st t), .slice none 0 0, .slice none 0 0] 25)) = V at *
  obtain ⟨c0, c1, c2, c3⟩ := four_cells HW0.o
  have hBV := HW1.o.lt
  have hbA := below_alloc V (.cells #[] 9)
  obtain ⟨d0, d1, d2, d3⟩ := four_cells (HW0.o.grow hbA)
  have HKS := hq ((HOK.o.grow (below_trans HB0.o hbA)).hks)
  go_wp2_with (at_builtin; refine wpList_copyV rfl _ _ rfl (g := V.heap.size) (o := ko) (cap := kc) (l := kl) HKS.o hkln rfl rfl ?_)
  intro g1 cap1 w4 hg1 hok1 hb4
  have hb4' := below_trans hbA (show Below (V.alloc (.cells #[] 9)).heap.size (V.alloc (.cells #[] 9)) w4 by rw [World.size_alloc]; exact hb4)
  have hg1V : V.heap.size ≤ g1 := by
    rcases hg1 with h | h
    · omega
    · omega
  have HI : Hq (RemO V.heap.size W W.heap.size (W.heap.size + 1) (W.heap.size + 1 + 1) #[.int .i64 k, .string (st t), .slice ko kl.length kc, .slice o is.length c] (.slice none 0 0) [] k t ⟨none, 0, []⟩ none 0 [] w4) := hq ⟨below_trans HB0.o hb4', hb4'.size, HW0.o.grow hb4', HWR.o.grow hb4', HW1.o.grow hb4', World.ownsRow_nil _ _ _ _, World.ownsRow_nil _ _ _ _, World.ownsRow_nil _ _ _ _, (fun y hy => by cases hy), ⟨Nat.le_refl _, by omega⟩, ⟨by omega, by omega⟩, ⟨by omega, by omega⟩, by omega, by omega⟩
  have HL : Hq (LeftI (W.heap.size + 1 + 1) (SRow.v ⟨none, 0, []⟩).ownBlock (Value.slice none ([] : List Vt).length 0).ownBlock (some ⟨g1, 0, none⟩) cap1 kl w4) := hq ⟨hok1, fun _ a ha => by
    obtain rfl := Option.some.inj ha
    exact ⟨by simp only; omega, fun e => (by cases e), fun e => (by cases e)⟩⟩
  clear HKS hbA hb4 hb4' hok1 hg1 hg1V c0 c1 c2 c3 d0 d1 d2 d3 HW0 HW1 HWR HB0
  go_wp2_with fail
  generalize hB : V.heap.size = B at *
  generalize hgv : W.heap.size = gv at *
  have HGV := hq hgv
  clear hB hgv
  by_cases h6 : k = 6
  case pos =>
    have e6 : (k == 6) = true := beq_iff_eq.2 h6
    have n6 : (k != 6) = false := by rw [bne, e6]; rfl
    obtain ⟨hlk, hnd, _⟩ := HOBJ.o h6
    have HND := hq hnd
    have HLK := hq hlk
    have HFIN := hq (fun D h1 h2 => HS6.o D h6 h1 h2)
    have HSEL := hq (Sel.start kl)
    clear HS6 HSE HNOK HOBJ hnd hlk h6
    go_loopw [4, 5, 6] (fun a _ _ wr => ∃ (lo : Option Addr) (lc : Nat) (l : List Bs) (kr : SRow) (p : Option Addr) (q : Nat) (ys : List Vt), a = .slice lo l.length lc ∧ Hq (RemO B W gv (gv + 1) (gv + 1 + 1) #[.int .i64 k, .string (st t), .slice ko kl.length kc, .slice o is.length c] (.slice none 0 0) [] k t kr p q ys wr) ∧ Hq (LeftI (gv + 1 + 1) kr.v.ownBlock (Value.slice p ys.length q).ownBlock lo lc l wr) ∧ Hq (Sel kl kr.l l) ∧ Hq (ys.map Vt.m = kr.l.map (fun key => sortV ((is.map Vt.m).getD ((ixOf kl key).getD 0) default)))) (fun a _ _ _ => lenV a)
    case atStart => exact ⟨_, _, kl, ⟨none, 0, []⟩, none, 0, [], rfl, HI, HL, HSEL, hq rfl⟩
    case round =>
      clear HI HL HSEL
      obtain ⟨lo, lc, l, kr, p, q, ys, rfl, hI, hL, hS, hys⟩ := hrel
      obtain ⟨c0, c1, c2, c3⟩ := four_cells hI.o.hv
      have HLN : Hq (kr.l.length + l.length = kl.length) := hq (by have := hS.o.perm.length_eq; rwa [List.length_append] at this)
      have hll : l.length ≤ 1000000 := by have := HLN.o; omega
      by_cases h0 : 0 < l.length
      · have h0z : (0 : Int) < (l.length : Int) := by omega
        obtain ⟨lb, lf, hlo, _⟩ := hL.o.ok.rd 0 h0
        simp only at hlo
        subst hlo
        go_wp2_with fail
        clear c0 c1 c2 c3
        obtain ⟨wo, hwo⟩ : ∃ wo, wo = wr := ⟨_, rfl⟩
        subst hwo
        go_loopw [5, 6] (fun a i wy => ∃ m j : Nat, m < l.length ∧ 1 ≤ j ∧ j ≤ l.length ∧ a = .int .i64 (m : Int) ∧ i = .int .i64 (j : Int) ∧ Hq (MinAt l m j) ∧ Hq (Below wo.heap.size wo wy)) (fun _ i _ => l.length - (intOf i).toNat)
        case atStart => exact ⟨0, 1, h0, Nat.le_refl _, h0, rfl, rfl, hq (MinAt.one l), hq (Below.refl _ _)⟩
        case round =>
          obtain ⟨m, j, hm, hj1, hj, rfl, rfl, hmin, hb⟩ := hrel
          by_cases h : j < l.length
          · have hz : (j : Int) < (l.length : Int) := by omega
            have hzm : (m : Int) < (l.length : Int) := by omega
            obtain ⟨b1, f1, ho1, k1⟩ := (hL.o.ok.grow hb.o).rd j h
            obtain ⟨b2, f2, ho2, k2⟩ := (hL.o.ok.grow hb.o).rd m hm
            simp only at ho1 k1 ho2 k2
            injection ho1 with ho1
            injection ho2 with ho2
            injection ho1 with e1 e2
            injection ho2 with e3 e4
            subst e1 e2 e3 e4
            have HD := hq (fun n => below_drawnR hb.o n)
            have HT := hq (hmin.o.take hm h)
            have HF := hq (hmin.o.keep h hm)
            clear hmin
            generalize l[j] = x at *
            generalize l[m] = y at *
            cases e1 : Op.bytesLess x y with
            | true =>
              have HT2 := hq (HT.o e1)
              clear HT HF HFIN hS hys hI hL HIH HP HLN
              go_wp2_with fail
              go_quiet (fail)
              go_wp2_with fail
              go_roundw
              case rel => exact ⟨j, j + 1, h, by omega, h, rfl, int_eq (by omega), HT2, hq (HD.o _)⟩
              case measure => simp [intOf]; omega
            | false =>
              have HF2 := hq (HF.o e1)
              clear HT HF HFIN hS hys hI hL HIH HP HLN
              go_wp2_with fail
              go_quiet (fail)
              go_wp2_with fail
              go_roundw
              case rel => exact ⟨m, j + 1, hm, by omega, h, rfl, int_eq (by omega), HF2, hq (HD.o _)⟩
              case measure => simp [intOf]; omega
          · have hz : ¬ (j : Int) < (l.length : Int) := by omega
            have hzm : (m : Int) < (l.length : Int) := by omega
            have HSTEP : Hq (Sel kl (kr.l ++ [l[m]]) (l.eraseIdx m)) := hq (hS.o.step HND.o hm (fun q hql => hmin.o q (by omega) hql hm))
            have HMEM : Hq (l[m] ∈ kl) := hq (hS.o.perm.mem_iff.1 (List.mem_append.2 (.inr (List.getElem_mem hm))))
            have HI2 := hq (hI.o.grow hb.o)
            have HL2 := hq (hL.o.grow hb.o)
            clear hI hL hS hmin hb
            obtain ⟨b1, f1, ho1, k1⟩ := HL2.o.ok.rd m hm
            simp only at ho1 k1
            injection ho1 with ho1
            injection ho1 with e1 e2
            subst e1 e2
            obtain ⟨jx, hjx, hje⟩ := List.mem_iff_getElem.1 HMEM.o
            have HIX : Hq (ixOf kl l[m] = some jx) := hq (by rw [← hje]; exact ixOf_nodup HND.o jx hjx)
            have hji : jx < is.length := by have := HLK.o; omega
            have HK1 := hq k1
            clear hje k1 HMEM
            generalize hkeye : l[m] = key at *
            have HKEY := hq hkeye
            clear hkeye
            obtain ⟨c0, c1, c2, c3⟩ := four_cells HI2.o.hv
            obtain ⟨d0, d1, d2, d3⟩ := four_cells HI2.o.hw
            have k1 := HK1.o
            have hkrl : kr.l.length ≤ 1000000 := by have := HLN.o; omega
            go_upto_region 10 with fail
            clear c0 c1 c2 c3
            go_cut [4, 5] from 17 to 74 (fun a b wx => a = .slice (some ⟨lb, lf, none⟩) l.length lc ∧ b = .int .i64 (m : Int) ∧ ∃ kr' : SRow, Hq (RemO B W gv (gv + 1) (gv + 1 + 1) #[.int .i64 k, .string (st t), .slice ko kl.length kc, .slice o is.length c] (.slice none 0 0) [] k t kr' p q ys wx) ∧ Hq (LeftI (gv + 1 + 1) kr'.v.ownBlock (Value.slice p ys.length q).ownBlock (some ⟨lb, lf, none⟩) lc l wx) ∧ Hq (kr'.l = kr.l ++ [key]))
            case first =>
              have HKS := hq HI2.o.ks
              have hszB := HI2.o.sz
              have HWA := hq (fun (T : TypeId) (cs : Array Value) (w' : World) (hg : (wr.alloc (.cells cs T)).grownBy w' kr.v.ownBlock) => whole_grownV (HI2.o.hw.alloc (.cells cs T)) hg (fun e => by have h1 := (HI2.o.ks.lt _ e.symm).1; have h2 := HI2.o.l1.2; omega))
              have d2a := (HI2.o.hw.alloc (.cells #[.string (st key)] 9)).at_ 2
              change World.cell? _ _ = some kr.v at d2a
              have HKR := hq (show kr.v = .slice kr.o kr.l.length kr.cap from rfl)
              unfold SRow.v at d2 d2a HKS
              obtain ⟨i1, hi1, hy0, hy1, hy2⟩ := info_partsV infoSv
              clear HIX HSTEP HFIN HIH HP hys HOK
              go_region_law (refine step_atV rfl (.tmp 42) (.tmp 47) 22 rfl B 9 i1 (.string ⟨#[]⟩) 1 16 Tryz.underlying22 hi1 hy0 hy1 hy2 rfl (by decide) (.slice kr.o kr.l.length kr.cap) kr.l.length (strC kr.l) (by simp [Act.eval]) (HKS.o.alloc (.cells #[.string (st key)] 9)) ⟨wr.heap.size, 0, none⟩ 1 1 [.string (st key)] (by simp [Act.eval]) rfl (cells_of_new wr [.string (st key)] _) (by simp [Value.oneCell']) (by unfold maxLen; omega) (by omega) (by show B ≤ (wr.alloc _).heap.size; rw [World.size_alloc]; omega) ?_; intro v' w6 hown6 hgrow6 hat6; obtain ⟨g6, c6, rfl⟩ := row_shapeV1 hown6; have hg6 : (wr.alloc (.cells #[.string (st key)] 9)).grownBy w6 (Value.slice kr.o kr.l.length kr.cap).ownBlock := ⟨hgrow6.os, hgrow6.tape, hgrow6.output, hgrow6.size, hgrow6.block⟩; have hw6 := HWA.o _ _ w6 hg6; have e6a := hw6.at_ 2; have e6b := hw6.free 2)
              all_goals
                have hI6 := (HI2.o.grow (below_alloc wr (.cells #[.string (st key)] 9))).key (x := key) hown6 hg6 hat6
                have hL6 := (HL2.o.grow (below_alloc wr (.cells #[.string (st key)] 9))).wrote hg6 (.inl rfl) hat6 (.inl rfl) 2 (.slice (some ⟨g6, 0, none⟩) (kr.l.length + 1) c6)
                have HI6 := hq hI6
                have HL6 := hq hL6
                clear hI6 hL6
                go_wp2_with fail
                go_meet
                exact ⟨rfl, rfl, ⟨some ⟨g6, 0, none⟩, c6, kr.l ++ [key]⟩, HI6, HL6, hq rfl⟩
            case rest =>
              obtain ⟨rfl, rfl, kr2, hI3, hL3, hkr2⟩ := hcut
              clear HI2 HL2 d0 d1 d2 d3 k1 HK1
              apply_assumption
              apply wp_seq_k
              intro KX hKX
              go_cut [4, 5] from 17 to 74 (fun a b wx => a = .slice (some ⟨lb, lf, none⟩) l.length lc ∧ b = .int .i64 (m : Int) ∧ ∃ (p' : Option Addr) (q' : Nat) (ys' : List Vt), Hq (RemO B W gv (gv + 1) (gv + 1 + 1) #[.int .i64 k, .string (st t), .slice ko kl.length kc, .slice o is.length c] (.slice none 0 0) [] k t kr2 p' q' ys' wx) ∧ Hq (LeftI (gv + 1 + 1) kr2.v.ownBlock (Value.slice p' ys'.length q').ownBlock (some ⟨lb, lf, none⟩) lc l wx) ∧ Hq (ys'.map Vt.m = kr2.l.map (fun key => sortV ((is.map Vt.m).getD ((ixOf kl key).getD 0) default))))
              case first =>
                have HYL : Hq (ys.length = kr.l.length) := hq (by have := congrArg List.length hys.o; rwa [List.length_map, List.length_map] at this)
                have hyl : ys.length ≤ 1000000 := by have := HYL.o; omega
                have hszB := hI3.o.sz
                obtain ⟨ib, ifo, hoo, hia⟩ := (HOK.o.grow hI3.o.bl).at_ jx hji
                have hib0 := cell_blk hia.c0
                have hibW : ib < W.heap.size := by
                  obtain ⟨ib', ifo', hoo', hia'⟩ := HOK.o.at_ jx hji
                  rw [hoo] at hoo'
                  injection hoo' with h1
                  injection h1 with h1
                  rw [h1]
                  exact cell_blk hia'.c0
                have hll3 := hL3.o.ap h0 ⟨lb, lf, none⟩ rfl
                simp only at hll3
                obtain ⟨hlg, hlk2, hli2⟩ := hll3
                obtain ⟨b3, f3, hb3e, k3⟩ := hL3.o.ok.rd m hm
                simp only at hb3e k3
                injection hb3e with hb3e
                injection hb3e with e1 e2
                subst e1 e2
                have k3' : wc.cell? ⟨lb, lf + m, none⟩ = some (.string (st key)) := by rw [k3, HKEY.o]
                clear k3
                have HC : Hq (∀ V, Below wc.heap.size wc V → Calls Tryz.prog 101 #[.agg #[.int .i64 is[jx].k, .string (st is[jx].t), is[jx].ks.v, is[jx].row]] V (RemPost (sortV is[jx].m) V)) := hq (fun V hb => HIH.o is[jx] (List.getElem_mem hji) V (((HOK.o.grow hI3.o.bl).item jx hji).grow hb))
                have HAT : Hq (∀ V, Below wc.heap.size wc V → Calls Tryz.prog 148 #[.agg #[.int .i64 k, .string (st t), .slice ko kl.length kc, .slice o is.length c], .string (st key)] V (IPost (jx : Int) V)) := hq (fun V hb => by
                  have h1 := rat_any (Vt.mk k t ⟨ko, kc, kl⟩ o c is) key V ((HOK.o.grow hI3.o.bl).grow hb)
                  have h2 : ixI kl key = (jx : Int) := by unfold ixI; rw [HIX.o]
                  simp only [Vt.ks] at h1
                  rw [h2] at h1
                  exact h1)
                have HVAL : Hq (sortV ((is.map Vt.m).getD ((ixOf kl key).getD 0) default) = sortV is[jx].m) := hq (by rw [HIX.o]; simp [hji])
                have HSG : Hq (∀ X, Below wc.heap.size wc X → SgC gv #[.int .i64 k, .string (st t), .slice ko kl.length kc, .slice o is.length c] lb (lf + m) key ib (ifo + jx * 4) is[jx] X) := hq (fun X hb => SgC.grow ⟨hI3.o.hv, k3', hia⟩ hb)
                have HOW := hq (show ∀ (V : World) (y : Vt), Below wc.heap.size wc V → y.Own 25 9 wc.heap.size (fun _ => True) V → y.Own 25 9 B (fun g => kr2.v.ownBlock ≠ some g ∧ (Value.slice p ys.length q).ownBlock ≠ some g) V from fun V y hb hy =>
                  (hy.lt.base hszB).kind (fun g hg => ⟨fun e => by have h1 := (hI3.o.ks.lt g e).2; omega, fun e => by have h1 := (hI3.o.it.lt g e).2; omega⟩))
                have HNB : Hq (some gv ≠ (Value.slice p ys.length q).ownBlock ∧ some lb ≠ (Value.slice p ys.length q).ownBlock ∧ some ib ≠ (Value.slice p ys.length q).ownBlock) := hq ⟨fun e => by have h1 := (hI3.o.it.lt _ e.symm).1; have h2 := hI3.o.l0.2; omega, fun e => hli2 e.symm, fun e => by have h1 := (hI3.o.it.lt _ e.symm).1; have h2 := hI3.o.l0; omega⟩
                have HNG : Hq (gv ≠ gv + 1 + 1 ∧ lb ≠ gv + 1 + 1 ∧ ib ≠ gv + 1 + 1) := hq ⟨by omega, by omega, by have := HGV.o; omega⟩
                have hjz : (jx : Int) < (is.length : Int) := by omega
                obtain ⟨i1, hi1, hy0, hy1, hy2⟩ := info_partsV infoVv
                clear HIX k3' hia hib0 hibW hlg hlk2 hli2
                generalize is[jx] = x at *
                subst hoo
                obtain ⟨⟨c0, c1, c2, c3⟩, k1, i0, j1, j2, j3⟩ := (HSG.o wc (Below.refl _ _)).cells
                obtain ⟨d0, d1, d2, d3⟩ := four_cells hI3.o.hw
                have hS1 := HSG.o wc (Below.refl _ _)
                have hB1 : Below wc.heap.size wc wc := Below.refl _ _
                go_wp2_with fail
                rw [show (Op.load 23 (.tmp 50)) = opS (Op.load 23 (.tmp 50)) from rfl]
                have hld : opS (Op.load 23 (.tmp 50)) = Op.load 23 (.tmp 50) := rfl
                go_region_held3 (fun X => SgC gv #[.int .i64 k, .string (st t), .slice ko kl.length kc, .slice (some ⟨ib, ifo, none⟩) is.length c] lb (lf + m) key ib (ifo + jx * 4) x X ∧ ((X.cell? ⟨gv, 0, none⟩ = some (.int .i64 k) ∧ X.cell? ⟨gv, 1, none⟩ = some (.string (st t)) ∧ X.cell? ⟨gv, 2, none⟩ = some (.slice ko kl.length kc) ∧ X.cell? ⟨gv, 3, none⟩ = some (.slice (some ⟨ib, ifo, none⟩) is.length c)) ∧ X.cell? ⟨lb, lf + m, none⟩ = some (.string (st key)) ∧ X.cell? ⟨ib, ifo + jx * 4, none⟩ = some (.int .i64 x.k) ∧ X.cell? ⟨ib, ifo + jx * 4 + 1, none⟩ = some (.string (st x.t)) ∧ X.cell? ⟨ib, ifo + jx * 4 + 2, none⟩ = some x.ks.v ∧ X.cell? ⟨ib, ifo + jx * 4 + 3, none⟩ = some x.row))
                  ((refine (fun h : SgC gv _ lb (lf + m) key ib (ifo + jx * 4) x _ => ⟨h, h.cells⟩) ?_; first | exact hS1 | exact hS1.drew | exact hS2 | exact hS2.drew | exact hS9 | exact hS9.drew | exact hSA | exact hSA.drew | exact hS6 | exact hS6.set HNG.o.1 HNG.o.2.1 HNG.o.2.2 _ _))
                  (first
                    | (go_at_call 148; (with_reducible refine (HAT.o _ (by first | exact hB1.drew | exact hB1)).mono ?_); rintro e2 v2 ⟨rfl, hb2⟩; have hB2 : Below wc.heap.size wc v2 := (by first | exact below_trans hB1.drew hb2 | exact below_trans hB1 hb2); have hS2 := HSG.o v2 hB2; have q2 := (hI3.o.grow hB2).hw.at_ 3)
                    | (go_at_call 101; (with_reducible refine (HC.o _ (by first | exact hB2 | exact hB2.drew)).mono ?_); rintro e9 w9 ⟨y, rfl, hyo, hym, hb9⟩; obtain ⟨yk, yt, ⟨yko, ykc, ykl⟩, yo, yc, yis⟩ := y; have hB9 : Below wc.heap.size wc w9 := (by first | exact below_trans hB2 hb9 | exact below_trans hB2.drew hb9); have HI9 := hq (hI3.o.grow hB9); have HYO := hq hyo; have HYM := hq hym; have q3 := HI9.o.hw.at_ 3; have q3a := (HI9.o.hw.alloc (.cells #[.int .i64 yk, .string (st yt), .slice yko ykl.length ykc, .slice yo yis.length yc] 25)).at_ 3; have hS9 := HSG.o w9 hB9; have hSA := HSG.o _ (below_trans hB9 (below_alloc w9 (.cells #[.int .i64 yk, .string (st yt), .slice yko ykl.length ykc, .slice yo yis.length yc] 25))); clear hyo hym; rw [Vt.v_mk'])
                    | (refine step_atV rfl (.tmp 51) (.tmp 63) 23 rfl B 25 i1 (.agg #[.int .i64 0, .string ⟨#[]⟩, .slice none 0 0, .slice none 0 0]) 4 72 Tryz.underlying23 hi1 hy0 hy1 hy2 rfl (by decide) (.slice p ys.length q) ys.length (vtC ys) (by simp [Act.eval]) (HI9.o.it.alloc (.cells #[.int .i64 yk, .string (st yt), .slice yko ykl.length ykc, .slice yo yis.length yc] 25)) ⟨w9.heap.size, 0, none⟩ 1 1 [.int .i64 yk, .string (st yt), .slice yko ykl.length ykc, .slice yo yis.length yc] (by simp [Act.eval]) rfl (cells_of_new w9 [.int .i64 yk, .string (st yt), .slice yko ykl.length ykc, .slice yo yis.length yc] _) (by simp [Value.oneCell']) (by unfold maxLen; omega) (by omega) (by have h1 := HI9.o.sz; show B ≤ (w9.alloc _).heap.size; rw [World.size_alloc]; omega) ?_; intro v' w6 hown6 hgrow6 hat6; obtain ⟨g6, c6, rfl⟩ := row_shapeV1 hown6; have hg6 : (w9.alloc (.cells #[.int .i64 yk, .string (st yt), .slice yko ykl.length ykc, .slice yo yis.length yc] 25)).grownBy w6 (Value.slice p ys.length q).ownBlock := ⟨hgrow6.os, hgrow6.tape, hgrow6.output, hgrow6.size, hgrow6.block⟩; have hw6 := whole_grownV (HI9.o.hw.alloc (.cells #[.int .i64 yk, .string (st yt), .slice yko ykl.length ykc, .slice yo yis.length yc] 25)) hg6 (fun e => by have h1 := (HI9.o.it.lt _ e.symm).1; have h2 := HI9.o.l1.2; omega); have e6a := hw6.at_ 3; have e6b := hw6.free 3; have hS6 := hSA.grown hg6 HNB.o.1 HNB.o.2.1 HNB.o.2.2))
                all_goals
                  have hI6 := (HI9.o.grow (below_alloc w9 (.cells #[.int .i64 yk, .string (st yt), .slice yko ykl.length ykc, .slice yo yis.length yc] 25))).item (x := Vt.mk yk yt ⟨yko, ykc, ykl⟩ yo yc yis) ((HOW.o w9 _ hB9 (HYO.o.base hB2.size)).grow (below_alloc w9 _)) hown6 hg6 hat6
                  have hL6 := ((hL3.o.grow hB9).grow (below_alloc w9 (.cells #[.int .i64 yk, .string (st yt), .slice yko ykl.length ykc, .slice yo yis.length yc] 25))).wrote hg6 (.inr rfl) (.inl rfl) hat6 3 (.slice (some ⟨g6, 0, none⟩) (ys.length + 1) c6)
                  have HI6 := hq hI6
                  have HL6 := hq hL6
                  have HYS := hq (show (ys ++ [Vt.mk yk yt ⟨yko, ykc, ykl⟩ yo yc yis]).map Vt.m = kr2.l.map (fun key => sortV ((is.map Vt.m).getD ((ixOf kl key).getD 0) default)) by
                    rw [hkr2.o, List.map_append, List.map_append, hys.o, List.map_cons, List.map_nil, List.map_cons, List.map_nil, HYM.o, ← HVAL.o])
                  clear hI6 hL6 hown6 hgrow6 hat6 hg6 hw6 e6a e6b q2 q3 q3a HI9 HYO HYM HOW HC HAT HVAL HSG hI3 hL3 hS1 hS2 hS9 hSA hS6 hB1 hB2 hB9 HSTEP hys k1 i0 j1 j2 j3 c0 c1 c2 c3 d0 d1 d2 d3 hb2 hb9 hld HKEY HNB HNG HYL hkr2
                  go_simp
                  go_wp2_with fail
                  go_meet
                  exact ⟨rfl, rfl, some ⟨g6, 0, none⟩, c6, ys ++ [Vt.mk yk yt ⟨yko, ykc, ykl⟩ yo yc yis], HI6, HL6, HYS⟩
              case rest =>
                obtain ⟨rfl, rfl, p2, q2, ys2, HI6, HL6, HYS⟩ := hcut
                have HST2 : Hq (Sel kl kr2.l (l.eraseIdx m)) := hq (by rw [hkr2.o]; exact HSTEP.o)
                have hle := HL6.o.ok.le
                have hlcp := HL6.o.ok.cp
                have hgwB := hq HI6.o.l1
                have hks6 := hq HI6.o.ks
                have hit6 := hq HI6.o.it
                clear hI3 hL3 HSTEP hys HKEY hkr2 HIX
                simp only at hle hlcp
                unfold maxLen at hlcp
                apply_assumption
                have hmc : m ≤ lc := by omega
                have hli : (l.eraseIdx m).length = l.length - 1 := by rw [List.length_eraseIdx_of_lt hm]
                obtain ⟨d, hd⟩ : ∃ d, d = m + 1 := ⟨_, rfl⟩
                have hdc : d ≤ lc := by omega
                have hdl : d ≤ l.length := by omega
                have hwd : IntKind.i64.wrap ((m : Int) + 1) = (d : Int) := (IntWalk.i64_in _ (by omega)).trans (by omega)
                have hdz : (d : Int) ≤ (l.length : Int) := by omega
                obtain ⟨A, hA, hA2⟩ : ∃ A, (if lc = d then some (⟨lb, lf, none⟩ : Addr) else some ⟨lb, lf + d, none⟩) = A ∧ (0 < l.length - d → A = (some (⟨lb, lf, none⟩ : Addr)).map fun q => q.add (m + 1)) := ⟨_, rfl, fun h => by
                  rw [if_neg (by omega), Option.map_some, Addr.add_lit, hd]⟩
                have HDD := hq hd
                clear hd
                have HA2 := hq hA2
                clear hA2
                have HOKL := hq HL6.o.ok
                go_wp2_with fail
                go_region_law (refine step_cutV (o := some ⟨lb, lf, none⟩) (o2 := A) (cap := lc) (c2 := lc - d) (b := m) (m := l.length - d) (l := l) rfl (.tmp 69) (.tmp 73) rfl (HOKL.o.grow (Below.refl _ _).drew) hm (by rw [← HDD.o]) hll (by simp [Act.eval, Act.put]) (by simp [Act.eval, Act.put]) HA2.o ?_; intro o' cap' w' hx1 hx2 hx3)
                all_goals
                  have HI7 := hq (HI6.o.grow (below_trans (Below.refl _ _).drew hx3))
                  have HL7 := hq (HL6.o.cut h0 hx2 hx1 (by have := hgwB.o; have := HI6.o.sz; omega) (fun g hg => (hks6.o.lt g hg).2) (fun g hg => (hit6.o.lt g hg).2))
                  go_simp
                  go_wp2_with fail
                  go_roundw
                  case rel => exact ⟨o', cap', l.eraseIdx m, kr2, p2, q2, ys2, by have := HDD.o; first | rfl | (rw [hli]; congr 1; omega), HI7, HL7, HST2, HYS⟩
                  case measure => have := HDD.o; simp [lenV]; omega
      · have h0z : ¬ (0 : Int) < (l.length : Int) := by omega
        obtain rfl := List.eq_nil_of_length_eq_zero (show l.length = 0 by omega)
        have HSV : Hq (SV = .mk k t kr.l (ys.map Vt.m)) := hq (by
          have h1 := hS.o.perm
          rw [List.append_nil] at h1
          rw [HFIN.o kr.l h1 hS.o.st, hys.o])
        clear HFIN HIH hL hS hys HLN HLK HND
        go_wp2_with fail
        clear c0 c1 c2 c3
        go_loopw [7] (fun i wy => i = .int .i64 0 ∧ Hq (RemO B W gv (gv + 1) (gv + 1 + 1) #[.int .i64 k, .string (st t), .slice ko kl.length kc, .slice o is.length c] (.slice none 0 0) [] k t kr p q ys wy)) (fun _ _ => 0)
        case atStart => exact ⟨rfl, hI⟩
        case round =>
          clear hI
          obtain ⟨rfl, hI2⟩ := hrel
          obtain ⟨c0, c1, c2, c3⟩ := four_cells hI2.o.hv
          have hcs : (0 : Int) < (is.length : Int) ∨ ¬ (0 : Int) < (is.length : Int) := Classical.em _
          rcases hcs with hil | hil
          · have hiln : 0 < is.length := by omega
            clear c0 c1 c2 c3
            obtain ⟨ro, rc, rl⟩ := kr
            obtain ⟨c0, c1, c2, c3⟩ := four_cells hI2.o.hv
            obtain ⟨d0, d1, d2, d3⟩ := four_cells hI2.o.hw
            obtain ⟨r0, r1, r2, r3⟩ := four_cells hI2.o.hr
            have f0 := hI2.o.hr.free 0
            have f1 := hI2.o.hr.free 1
            have f2 := hI2.o.hr.free 2
            have f3 := hI2.o.hr.free 3
            unfold SRow.v at d2
            simp only at d2
            have HL2 := hq hI2.o.l2
            have HL0 := hq hI2.o.l0
            have HOUT := hq (fun a b c d => (((((hI2.o.out.set (g := gv + 1) (i := 0) HL2.o.2 a).set (g := gv + 1) (i := 1) HL2.o.2 b).set (g := gv + 1) (i := 2) HL2.o.2 c).set (g := gv + 1) (i := 3) HL2.o.2 d).base (Nat.le_of_lt HL0.o.2)))
            have HBL := hq (fun a b c d => below_put (below_put (below_put (below_put hI2.o.bl HL2.o.1 0 a) HL2.o.1 1 b) HL2.o.1 2 c) HL2.o.1 3 d)
            have HM := hq (show (Vt.mk k t ⟨ro, rc, rl⟩ p q ys).m = SV from (Vt.m_mk k t ⟨ro, rc, rl⟩ p q ys).trans HSV.o.symm)
            clear HSV
            go_upto_region 17 with fail
            go_wp2_with fail
            refine bodyPost_ret (v := (Vt.mk k t ⟨ro, rc, rl⟩ p q ys).v) ?_ rfl ?_
            · simp [results, Tryz.results101, go_sem, r0, r1, r2, r3, Vt.v_mk']
            · refine HP.o _ _ ?_ HM.o ?_
              · exact HOUT.o _ _ _ _
              · have h1 := HBL.o (.int .i64 k) (.string (st t)) (.slice ro rl.length rc) (.slice p ys.length q)
                rw [HGV.o] at h1
                exact h1
          · have hiln : ¬ 0 < is.length := by omega
            clear c0 c1 c2 c3
            obtain ⟨ro, rc, rl⟩ := kr
            obtain ⟨c0, c1, c2, c3⟩ := four_cells hI2.o.hv
            obtain ⟨d0, d1, d2, d3⟩ := four_cells hI2.o.hw
            obtain ⟨r0, r1, r2, r3⟩ := four_cells hI2.o.hr
            have f0 := hI2.o.hr.free 0
            have f1 := hI2.o.hr.free 1
            have f2 := hI2.o.hr.free 2
            have f3 := hI2.o.hr.free 3
            unfold SRow.v at d2
            simp only at d2
            have HL2 := hq hI2.o.l2
            have HL0 := hq hI2.o.l0
            have HOUT := hq (fun a b c d => (((((hI2.o.out.set (g := gv + 1) (i := 0) HL2.o.2 a).set (g := gv + 1) (i := 1) HL2.o.2 b).set (g := gv + 1) (i := 2) HL2.o.2 c).set (g := gv + 1) (i := 3) HL2.o.2 d).base (Nat.le_of_lt HL0.o.2)))
            have HBL := hq (fun a b c d => below_put (below_put (below_put (below_put hI2.o.bl HL2.o.1 0 a) HL2.o.1 1 b) HL2.o.1 2 c) HL2.o.1 3 d)
            have HM := hq (show (Vt.mk k t ⟨ro, rc, rl⟩ p q ys).m = SV from (Vt.m_mk k t ⟨ro, rc, rl⟩ p q ys).trans HSV.o.symm)
            clear HSV
            go_upto_region 17 with fail
            go_wp2_with fail
            refine bodyPost_ret (v := (Vt.mk k t ⟨ro, rc, rl⟩ p q ys).v) ?_ rfl ?_
            · simp [results, Tryz.results101, go_sem, r0, r1, r2, r3, Vt.v_mk']
            · refine HP.o _ _ ?_ HM.o ?_
              · exact HOUT.o _ _ _ _
              · have h1 := HBL.o (.int .i64 k) (.string (st t)) (.slice ro rl.length rc) (.slice p ys.length q)
                rw [HGV.o] at h1
                exact h1
  case neg =>
    have e6 : (k == 6) = false := beq_eq_false_iff_ne.2 h6
    have n6 : (k != 6) = true := bne_iff_ne.2 h6
    have HSV0 := hq (HSE.o h6)
    clear HS6 HSE HNOK HOBJ HL h6
    go_loopw [4, 5, 6] (fun a _ _ wr => a = .slice (some ⟨g1, 0, none⟩) kl.length cap1 ∧ Hq (RemO B W gv (gv + 1) (gv + 1 + 1) #[.int .i64 k, .string (st t), .slice ko kl.length kc, .slice o is.length c] (.slice none 0 0) [] k t ⟨none, 0, []⟩ none 0 [] wr)) (fun _ _ _ _ => 0)
    case atStart => exact ⟨rfl, HI⟩
    case round =>
      clear HI
      obtain ⟨rfl, HI⟩ := hrel
      obtain ⟨c0, c1, c2, c3⟩ := four_cells HI.o.hv
      go_wp2_with fail
      clear c0 c1 c2 c3
      go_loopw [7] (fun i wy => ∃ (j : Nat) (kr : SRow) (p : Option Addr) (q : Nat) (ys : List Vt), j ≤ is.length ∧ i = .int .i64 (j : Int) ∧ Hq (kr.l = []) ∧ Hq (RemO B W gv (gv + 1) (gv + 1 + 1) #[.int .i64 k, .string (st t), .slice ko kl.length kc, .slice o is.length c] (.slice none 0 0) [] k t kr p q ys wy) ∧ Hq (ys.map Vt.m = ((is.take j).map Vt.m).map sortV)) (fun i _ => is.length - (intOf i).toNat)
      case atStart => exact ⟨0, ⟨none, 0, []⟩, none, 0, [], Nat.zero_le _, rfl, hq rfl, HI, hq rfl⟩
      case round =>
        clear HI
        obtain ⟨j, kr, p, q, ys, hj, rfl, hkr, hI, hys⟩ := hrel
        obtain ⟨c0, c1, c2, c3⟩ := four_cells hI.o.hv
        by_cases h : j < is.length
        · have hz : (j : Int) < (is.length : Int) := by omega
          have hbw : Below W.heap.size W wr := hI.o.bl
          obtain ⟨b, f, ho, hia⟩ := (HOK.o.grow hbw).at_ j h
          have HC := hq (fun V (hb : Below wr.heap.size wr V) => HIH.o is[j] (List.getElem_mem h) V (((HOK.o.grow hbw).item j h).grow hb))
          have HTK : Hq (((is.take (j + 1)).map Vt.m).map sortV = ((is.take j).map Vt.m).map sortV ++ [sortV is[j].m]) := hq (by rw [List.take_succ_eq_append_getElem h, List.map_append, List.map_append]; rfl)
          have HYL : Hq (ys.length = j) := hq (by
            have h1 := congrArg List.length hys.o
            rw [List.length_map, List.length_map, List.length_map, List.length_take] at h1
            omega)
          have hyl : ys.length ≤ 1000000 := by have := HYL.o; omega
          have hszB := hI.o.sz
          have HOW := hq (show ∀ (V : World) (y : Vt), Below wr.heap.size wr V → y.Own 25 9 wr.heap.size (fun _ => True) V → y.Own 25 9 B (fun g => kr.v.ownBlock ≠ some g ∧ (Value.slice p ys.length q).ownBlock ≠ some g) V from fun V y hb hy =>
            (hy.lt.base hszB).kind (fun g hg => ⟨fun e => by have h1 := (hI.o.ks.lt g e).2; omega, fun e => by have h1 := (hI.o.it.lt g e).2; omega⟩))
          obtain ⟨i1, hi1, hy0, hy1, hy2⟩ := info_partsV infoVv
          generalize is[j] = x at *
          subst ho
          obtain ⟨d0, d1, d2, d3⟩ := four_cells hI.o.hw
          obtain ⟨a0, a1, a2, a3⟩ := hia
          go_wp2_with fail
          go_region_law (first
            | (refine step_atV rfl (.tmp 88) (.tmp 95) 23 rfl B 25 i1 (.agg #[.int .i64 0, .string ⟨#[]⟩, .slice none 0 0, .slice none 0 0]) 4 72 Tryz.underlying23 hi1 hy0 hy1 hy2 rfl (by decide) (.slice p ys.length q) ys.length (vtC ys) (by simp [Act.eval]) (HI9.o.it.alloc (.cells #[.int .i64 yk, .string (st yt), .slice yko ykl.length ykc, .slice yo yis.length yc] 25)) ⟨w9.heap.size, 0, none⟩ 1 1 [.int .i64 yk, .string (st yt), .slice yko ykl.length ykc, .slice yo yis.length yc] (by simp [Act.eval]) rfl (cells_of_new w9 [.int .i64 yk, .string (st yt), .slice yko ykl.length ykc, .slice yo yis.length yc] _) (by simp [Value.oneCell']) (by unfold maxLen; omega) (by omega) (by have h1 := HI9.o.sz; show B ≤ (w9.alloc _).heap.size; rw [World.size_alloc]; omega) ?_
               intro v' w6 hown6 hgrow6 hat6
               obtain ⟨g6, c6, rfl⟩ := row_shapeV1 hown6
               have hg6 : (w9.alloc (.cells #[.int .i64 yk, .string (st yt), .slice yko ykl.length ykc, .slice yo yis.length yc] 25)).grownBy w6 (Value.slice p ys.length q).ownBlock := ⟨hgrow6.os, hgrow6.tape, hgrow6.output, hgrow6.size, hgrow6.block⟩
               have hw6 := whole_grownV (HI9.o.hw.alloc (.cells #[.int .i64 yk, .string (st yt), .slice yko ykl.length ykc, .slice yo yis.length yc] 25)) hg6 (fun e => by have h1 := (HI9.o.it.lt _ e.symm).1; have h2 := HI9.o.l1.2; omega)
               have e6a := hw6.at_ 3
               have e6b := hw6.free 3)
            | (go_simp
               go_at_call 101
               refine (HC.o wr.drew (Below.refl _ _).drew).mono ?_
               rintro e9 w9 ⟨y, rfl, hyo, hym, hb9⟩
               obtain ⟨yk, yt, ⟨yko, ykc, ykl⟩, yo, yc, yis⟩ := y
               have HB9 := hq (show Below wr.heap.size wr w9 from below_trans (Below.refl _ _).drew hb9)
               have HI9 := hq (hI.o.grow HB9.o)
               have HYO := hq hyo
               have HYM := hq hym
               obtain ⟨q0, q1, q2, q3⟩ := four_cells HI9.o.hw
               have q3a := (HI9.o.hw.alloc (.cells #[.int .i64 yk, .string (st yt), .slice yko ykl.length ykc, .slice yo yis.length yc] 25)).at_ 3
               clear hyo hym
               rw [Vt.v_mk']))
          all_goals
            have hI6 := (HI9.o.grow (below_alloc w9 (.cells #[.int .i64 yk, .string (st yt), .slice yko ykl.length ykc, .slice yo yis.length yc] 25))).item (x := Vt.mk yk yt ⟨yko, ykc, ykl⟩ yo yc yis) ((HOW.o w9 _ HB9.o HYO.o).grow (below_alloc w9 _)) hown6 hg6 hat6
            have HI6 := hq hI6
            have HYS := hq (show (ys ++ [Vt.mk yk yt ⟨yko, ykc, ykl⟩ yo yc yis]).map Vt.m = ((is.take (j + 1)).map Vt.m).map sortV by
              rw [HTK.o, List.map_append, hys.o, List.map_cons, List.map_nil, HYM.o])
            clear hI6 hown6 hgrow6 hat6 hg6 hw6 e6a e6b q0 q1 q2 q3 q3a HI9 HYO HYM HB9 HOW HC HIH hys hI a0 a1 a2 a3 c0 c1 c2 c3 d0 d1 d2 d3 HTK
            go_simp
            generalize w6.setCell ⟨gv + 1 + 1, 3, none⟩ (.slice (some ⟨g6, 0, none⟩) (ys.length + 1) c6) = W7 at *
            go_wp2_with fail
            go_roundw
            case rel => exact ⟨j + 1, kr, some ⟨g6, 0, none⟩, c6, ys ++ [Vt.mk yk yt ⟨yko, ykc, ykl⟩ yo yc yis], h, int_eq (by omega), hkr, HI6, HYS⟩
            case measure => simp [intOf]; omega
        · have hz : ¬ (j : Int) < (is.length : Int) := by omega
          have hzn : ¬ j < is.length := h
          have HSV : Hq (SV = .mk k t kr.l (ys.map Vt.m)) := hq (by rw [HSV0.o, hkr.o, hys.o, List.take_of_length_le (by omega)])
          clear hkr hys HIH HSV0 c0 c1 c2 c3
          obtain ⟨ro, rc, rl⟩ := kr
          obtain ⟨c0, c1, c2, c3⟩ := four_cells hI.o.hv
          obtain ⟨d0, d1, d2, d3⟩ := four_cells hI.o.hw
          obtain ⟨r0, r1, r2, r3⟩ := four_cells hI.o.hr
          have f0 := hI.o.hr.free 0
          have f1 := hI.o.hr.free 1
          have f2 := hI.o.hr.free 2
          have f3 := hI.o.hr.free 3
          unfold SRow.v at d2
          simp only at d2
          have HL2 := hq hI.o.l2
          have HL0 := hq hI.o.l0
          have HOUT := hq (fun a b c d => (((((hI.o.out.set (g := gv + 1) (i := 0) HL2.o.2 a).set (g := gv + 1) (i := 1) HL2.o.2 b).set (g := gv + 1) (i := 2) HL2.o.2 c).set (g := gv + 1) (i := 3) HL2.o.2 d).base (Nat.le_of_lt HL0.o.2)))
          have HBL := hq (fun a b c d => below_put (below_put (below_put (below_put hI.o.bl HL2.o.1 0 a) HL2.o.1 1 b) HL2.o.1 2 c) HL2.o.1 3 d)
          have HM := hq (show (Vt.mk k t ⟨ro, rc, rl⟩ p q ys).m = SV from (Vt.m_mk k t ⟨ro, rc, rl⟩ p q ys).trans HSV.o.symm)
          clear HSV
          go_upto_region 17 with fail
          go_wp2_with fail
          refine bodyPost_ret (v := (Vt.mk k t ⟨ro, rc, rl⟩ p q ys).v) ?_ rfl ?_
          · simp [results, Tryz.results101, go_sem, r0, r1, r2, r3, Vt.v_mk']
          · refine HP.o _ _ ?_ HM.o ?_
            · exact HOUT.o _ _ _ _
            · have h1 := HBL.o (.int .i64 k) (.string (st t)) (.slice ro rl.length rc) (.slice p ys.length q)
              rw [HGV.o] at h1
              exact h1)
end Go.Proofs.YtnlkokgekjlmmaaGreatDoor

namespace Go.Proofs.YtnlkokgekjlmmaaGreatDoor
open Go.RowKit

theorem thenM_assoc (a b c : Int) : thenM (thenM a b) c = thenM a (thenM b c) := by
  unfold thenM
  by_cases h : a ≠ 0
  · simp [h]
  · simp [h]
theorem thenM_zero (b : Int) : thenM 0 b = b := by unfold thenM; simp
theorem thenM_ne {a : Int} (h : a ≠ 0) (b : Int) : thenM a b = a := by unfold thenM; rw [if_pos h]
theorem cmpInt_cases (a b : Nat) : ((a : Int) ≠ (b : Int) ∧ (a : Int) < (b : Int) ∧ Lib.compareInt (a : Int) (b : Int) = -1) ∨ ((a : Int) ≠ (b : Int) ∧ ¬ (a : Int) < (b : Int) ∧ Lib.compareInt (a : Int) (b : Int) = 1) ∨ ((a : Int) = (b : Int) ∧ Lib.compareInt (a : Int) (b : Int) = 0) := by
  unfold Lib.compareInt
  rcases Int.lt_trichotomy (a : Int) (b : Int) with h | h | h
  · exact .inl ⟨by omega, h, by simp [h]⟩
  · exact .inr (.inr ⟨h, by simp [h]⟩)
  · exact .inr (.inl ⟨by omega, by omega, by simp [h, show ¬ (a : Int) < (b : Int) by omega]⟩)

end Go.Proofs.YtnlkokgekjlmmaaGreatDoor

namespace Go.Proofs.YtnlkokgekjlmmaaGreatDoor
open Go.RowKit

/-- an item has its like -/
def Like (k : Int) (kl kl' : List Bs) (is is' : List Vl) (q : Nat) : Prop := ∀ (hq : q < is.length), ∃ jx, ∃ hj : jx < is'.length, (k = 6 → ∀ hk : q < kl.length, ixOf kl' kl[q] = some jx) ∧ (k ≠ 6 → jx = q) ∧ sortV is[q] = sortV is'[jx]
theorem same_iff {k : Int} {t t' : Bs} {ks ks' : List Bs} {is is' : List Vl} (h : Good (.mk k t ks is)) (h' : Good (.mk k t' ks' is')) :
    sortV (.mk k t ks is) = sortV (.mk k t' ks' is') ↔ t = t' ∧ is.length = is'.length ∧ ∀ q, Like k ks ks' is is' q := by
  by_cases h6 : k = 6
  · subst h6
    have hl := (h.obj rfl).1
    rw [same_obj h h']
    constructor
    · rintro ⟨h1, h2, h3⟩
      refine ⟨h1, h2, fun q hq => ?_⟩
      obtain ⟨j, hj, a, b⟩ := h3 q hq (by omega)
      exact ⟨j, hj, fun _ _ => a, fun e => absurd rfl e, b⟩
    · rintro ⟨h1, h2, h3⟩
      refine ⟨h1, h2, fun i hi hk => ?_⟩
      obtain ⟨j, hj, a, _, b⟩ := h3 i hi
      exact ⟨j, hj, a rfl hk, b⟩
  · rw [same_else h6]
    constructor
    · rintro ⟨h1, h2, h3⟩
      exact ⟨h1, h2, fun q hq => ⟨q, by omega, fun e => absurd e h6, fun _ => rfl, h3 q hq (by omega)⟩⟩
    · rintro ⟨h1, h2, h3⟩
      refine ⟨h1, h2, fun i hi hi' => ?_⟩
      obtain ⟨j, hj, _, a, b⟩ := h3 i hi
      obtain rfl := a h6
      exact b
def SamePost (a b : Vl) (w : World) (e : Ending) (w' : World) : Prop := ∃ v : Bool, e = .returned (.bool v) ∧ (v = true ↔ sortV a = sortV b) ∧ Below w.heap.size w w'
end Go.Proofs.YtnlkokgekjlmmaaGreatDoor

namespace Go.Proofs.YtnlkokgekjlmmaaGreatDoor
open Go.RowKit

set_option maxHeartbeats 8000000 in
set_option maxRecDepth 1000000 in
theorem rSorted_any (x : Vt) (w : World) (hx : Fine x w) : Calls Tryz.prog 54 #[x.v] w (RemPost (if openM x.m = true then sortV x.m else zeroL) w) := by
  have HOA := hq (fun V (hV : Below w.heap.size w V) => ropenV_any x V (hx.grow hV))
  have HRM := hq (fun (ho : openM x.m = true) V (hV : Below w.heap.size w V) => rsorted_any x V (hx.ok.grow hV) (openM_good ho).1 hx.sz)
  obtain ⟨k, t, ⟨ko, kc, kl⟩, o, c, is⟩ := x
  rw [Vt.v_mk'] at *
  generalize (Vt.mk k t ⟨ko, kc, kl⟩ o c is).m = X at *
  have HP : Hq (∀ (y : Vt) W', y.Own 25 9 w.heap.size (fun _ => True) W' → y.m = (if openM X = true then sortV X else zeroL) → Below w.heap.size w W' → RemPost (if openM X = true then sortV X else zeroL) w (.returned y.v) W') := hq (fun y W' h1 h2 h3 => ⟨y, rfl, h1, h2, h3⟩)
  generalize hR : RemPost (if openM X = true then sortV X else zeroL) w = PP at *
  clear hR
  obtain ⟨hb0, hw0, hw1⟩ := two_boxes w 25 #[.int .i64 k, .string (st t), .slice ko kl.length kc, .slice o is.length c] #[.int .i64 0, .string ⟨#[]⟩, .slice none 0 0, .slice none 0 0]
  have HB0 := hq hb0
  have HW0 := hq hw0
  have HW1 := hq hw1
  have HG1 := hq hw1.lt
  clear hx hb0 hw0 hw1
  go_enter Tryz.func54, Tryz.ntmps54
  go_upto_region 1 with fail
  generalize ((w.alloc (.cells #[.int .i64 k, .string (st t), .slice ko kl.length kc, .slice o is.length c] 25)).alloc (.cells #[.int .i64 0, .string ⟨#[]⟩, .slice none 0 0, .slice none 0 0] 25)) = V0 at *
  have HGW : Hq (w.heap.size ≤ w.heap.size + 1) := hq (by omega)
  obtain ⟨c0, c1, c2, c3⟩ := four_cells HW0.o
  have HOC := hq (HOA.o V0 HB0.o)
  clear HOA
  go_wp2_with fail
  refine HOC.o.mono ?_
  rintro e w2 ⟨rfl, hb2⟩
  have HB2 := hq (below_trans HB0.o hb2)
  have HS2 := hq hb2.size
  obtain ⟨d0, d1, d2, d3⟩ := four_cells (HW0.o.grow hb2)
  have HR2 := hq (HW1.o.grow hb2)
  clear hb2 HOC c0 c1 c2 c3
  by_cases ho : openM X = true
  case neg =>
    have hof : openM X = false := by simpa using ho
    obtain ⟨r0, r1, r2, r3⟩ := four_cells HR2.o
    have f0 := HR2.o.free 0
    have f1 := HR2.o.free 1
    have f2 := HR2.o.free 2
    have f3 := HR2.o.free 3
    have HV := hq (HP.o zeroT ((((w2.setCell ⟨w.heap.size + 1, 0, none⟩ (.int .i64 0)).setCell ⟨w.heap.size + 1, 1, none⟩ (.string ⟨#[]⟩)).setCell ⟨w.heap.size + 1, 2, none⟩ (.slice none 0 0)).setCell ⟨w.heap.size + 1, 3, none⟩ (.slice none 0 0)) (zeroT_own _ _) (by rw [zeroT_m, if_neg ho]) (below_put4 HB2.o HGW.o _ _ _ _))
    rw [hof]
    clear HP HRM ho hof
    go_wp2_with fail
    refine bodyPost_ret (v := zeroT.v) ?_ rfl HV.o
    simp [results, Tryz.results54, go_sem, r0, r1, r2, r3, zeroT, Vt.v_mk']
  case pos =>
    have HRC := hq (HRM.o ho w2 HB2.o)
    have HP2 := hq (fun (y : Vt) W' h1 (h2 : y.m = sortV X) h3 => HP.o y W' h1 (by rw [h2, if_pos ho]) h3)
    rw [ho]
    clear HP HRM ho
    go_wp2_with fail
    refine HRC.o.mono ?_
    rintro e w3 ⟨y, rfl, hyo, hym, hb3⟩
    obtain ⟨yk, yt, ⟨yko, ykc, ykl⟩, yo, yc, yis⟩ := y
    have HR3 := hq (HR2.o.grow hb3)
    obtain ⟨r0, r1, r2, r3⟩ := four_cells HR3.o
    have f0 := HR3.o.free 0
    have f1 := HR3.o.free 1
    have f2 := HR3.o.free 2
    have f3 := HR3.o.free 3
    have HV := hq (fun a b c d => HP2.o _ ((((w3.setCell ⟨w.heap.size + 1, 0, none⟩ a).setCell ⟨w.heap.size + 1, 1, none⟩ b).setCell ⟨w.heap.size + 1, 2, none⟩ c).setCell ⟨w.heap.size + 1, 3, none⟩ d) ((own_put4 hyo (show w.heap.size + 1 < w2.heap.size by have := HG1.o; have := HS2.o; omega) a b c d).base (by have := HB2.o.size; omega)) hym (below_put4 (below_trans HB2.o hb3) HGW.o a b c d))
    clear hyo hym hb3 HRC HP2 d0 d1 d2 d3
    rw [Vt.v_mk']
    go_wp2_with fail
    refine bodyPost_ret (v := (Vt.mk yk yt ⟨yko, ykc, ykl⟩ yo yc yis).v) ?_ rfl (HV.o _ _ _ _)
    simp [results, Tryz.results54, go_sem, r0, r1, r2, r3, Vt.v_mk']
/-- a tree that is made, for the order of two -/
def IsG (m : Vl) (a : Value) (V : World) : Prop := ∃ y : Vt, a = y.v ∧ y.Ok V ∧ y.m = m ∧ Good m ∧ m.All Lim
def SrtG (m : Vl) (V : World) (e : Ending) (V' : World) : Prop := ∃ a : Value, e = .returned a ∧ Hq (∀ V2, Below V'.heap.size V' V2 → IsG m a V2) ∧ Below V.heap.size V V'
end Go.Proofs.YtnlkokgekjlmmaaGreatDoor

namespace Go.Proofs.YtnlkokgekjlmmaaGreatDoor
open Go.RowKit

theorem BoxS.four {g : Nat} {w : World} {t : Bs} {kv ov : Value} (h : BoxS w g t kv ov) : ∃ z, w.cell? ⟨g, 0, none⟩ = some (.int .i64 z) ∧ w.cell? ⟨g, 1, none⟩ = some (.string (st t)) ∧ w.cell? ⟨g, 2, none⟩ = some kv ∧ w.cell? ⟨g, 3, none⟩ = some ov := by
  obtain ⟨cur, h1, ⟨z, h2⟩, h3, h4, h5⟩ := h.at_
  exact ⟨z, (cell_of_row w g _ cur _ (0, 0) h1).trans h2, (cell_of_row w g _ cur _ (0, 0) h1).trans h3, (cell_of_row w g _ cur _ (0, 0) h1).trans h4, (cell_of_row w g _ cur _ (0, 0) h1).trans h5⟩
/-- what lies in memory all along -/
structure Pw (w : World) (g gw : Nat) (CA CB CW : Array Value) (ws : Vt) (W : World) : Prop where
  lo : Below w.heap.size w W
  a : Whole W g 25 CA
  b : Whole W (g + 1) 25 CB
  c : Whole W gw 25 CW
  fw : ws.Ok W
theorem Pw.grow {w W W' : World} {g gw : Nat} {CA CB CW : Array Value} {ws : Vt} (h : Pw w g gw CA CB CW ws W) (hb : Below W.heap.size W W') : Pw w g gw CA CB CW ws W' :=
  ⟨below_trans h.lo hb, h.a.grow hb, h.b.grow hb, h.c.grow hb, h.fw.grow hb⟩
theorem Pw.drew {w W : World} {g gw : Nat} {CA CB CW : Array Value} {ws : Vt} (h : Pw w g gw CA CB CW ws W) : Pw w g gw CA CB CW ws W.drew := h.grow (Below.refl _ _).drew
/-- .. and the two trees that are made -/
structure Pv2 (B : Nat) (W6 : World) (g gs gc : Nat) (CA CS CC : Array Value) (ss cs : Vt) (W : World) : Prop where
  b6 : Below B W6 W
  a : Whole W g 25 CA
  s : Whole W gs 25 CS
  c : Whole W gc 25 CC
  so : ss.Own 25 9 B (fun _ => True) W
  co : cs.Own 25 9 B (fun _ => True) W
theorem Pv2.grow {B : Nat} {W6 W W' : World} {g gs gc : Nat} {CA CS CC : Array Value} {ss cs : Vt} (hB : B = W6.heap.size) (h : Pv2 B W6 g gs gc CA CS CC ss cs W) (hb : Below W.heap.size W W') : Pv2 B W6 g gs gc CA CS CC ss cs W' := by
  subst hB
  exact ⟨below_trans h.b6 hb, h.a.grow hb, h.s.grow hb, h.c.grow hb, h.so.grow hb, h.co.grow hb⟩
def MkM (m : Vl) (V : World) (e : Ending) (V' : World) : Prop := ∃ a : Value, e = .returned a ∧ Hq (IsM m a V') ∧ Below V.heap.size V V'
end Go.Proofs.YtnlkokgekjlmmaaGreatDoor
