/-
  ORDER: the document's Merge: the place of the next name; what lies in memory between two rounds; a name cut out of a row.
-/
import Derived.Test.YtccdmoogjcgcfaaOrB
import Derived.Test.YtccdmoogjcgcfaaOrS
import Derived.ArgAppend
import Derived.Deep.Upon
namespace Go.Proofs.Ytccdmoogjcgcfaa
open Go.RowKit

/-- after i of those that are left: the place of the least free one -/
def BestAt (bef : Bs → Bs → Bool) (rest : List Bs) (i : Nat) (o : Int) : Prop :=
  (o = -1 ∧ ∀ j (hj : j < rest.length), j < i → free bef rest rest[j] = false) ∨
  (∃ b, ∃ hb : b < rest.length, b < i ∧ o = (b : Int) ∧ free bef rest rest[b] = true ∧ ∀ j (hj : j < rest.length), j < i → free bef rest rest[j] = true → Op.bytesLess rest[j] rest[b] = false)
section
variable {bef : Bs → Bs → Bool} {rest : List Bs}
theorem best_0 : BestAt bef rest 0 (-1) := .inl ⟨rfl, fun _ _ h => absurd h (Nat.not_lt_zero _)⟩
theorem best_skip {i : Nat} {o : Int} (h : BestAt bef rest i o) (hi : i < rest.length) (hf : free bef rest rest[i] = false) : BestAt bef rest (i + 1) o := by
  rcases h with ⟨h1, h2⟩ | ⟨b, hb, h1, h2, h3, h4⟩
  · refine .inl ⟨h1, fun j hj hji => ?_⟩
    by_cases e : j = i
    · subst e; exact hf
    · exact h2 j hj (by omega)
  · refine .inr ⟨b, hb, by omega, h2, h3, fun j hj hji hfj => ?_⟩
    by_cases e : j = i
    · subst e; rw [hf] at hfj; cases hfj
    · exact h4 j hj (by omega) hfj
theorem best_keep {i b : Nat} (h : BestAt bef rest i (b : Int)) (hi : i < rest.length) (hb : b < rest.length) (hl : Op.bytesLess rest[i] rest[b] = false) : BestAt bef rest (i + 1) (b : Int) := by
  rcases h with ⟨h1, _⟩ | ⟨b', hb', h1, h2, h3, h4⟩
  · omega
  · obtain rfl : b = b' := by omega
    refine .inr ⟨b, hb, by omega, rfl, h3, fun j hj hji hfj => ?_⟩
    by_cases e : j = i
    · subst e; exact hl
    · exact h4 j hj (by omega) hfj
theorem best_take {i : Nat} {o : Int} (h : BestAt bef rest i o) (hi : i < rest.length) (hf : free bef rest rest[i] = true) (hl : ∀ b (hb : b < rest.length), o = (b : Int) → Op.bytesLess rest[i] rest[b] = true) : BestAt bef rest (i + 1) (i : Int) := by
  refine .inr ⟨i, hi, by omega, rfl, hf, fun j hj hji hfj => ?_⟩
  by_cases e : j = i
  · subst e; exact bl_irr _
  · rcases h with ⟨_, h2⟩ | ⟨b, hb, h1, h2, h3, h4⟩
    · rw [h2 j hj (by omega)] at hfj; cases hfj
    · have h5 := hl b hb h2
      have h6 := h4 j hj (by omega) hfj
      rw [bytesLess_eq] at h5 h6 ⊢
      have h7 := of_decide_eq_true h5
      have h8 := of_decide_eq_false h6
      exact decide_eq_false fun h9 => h8 (List.lt_trans h9 h7)
theorem best_cases {i : Nat} {o : Int} (h : BestAt bef rest i o) : o = -1 ∨ ∃ b : Nat, b < rest.length ∧ o = (b : Int) := by
  rcases h with ⟨h1, _⟩ | ⟨b, hb, _, h2, _⟩
  · exact .inl h1
  · exact .inr ⟨b, hb, h2⟩
/-- at the end: none of the sorted ones is free -/
theorem best_none {s : List Bs} (h : BestAt bef rest rest.length (-1)) (hp : rest.Perm s) : s.find? (free bef s) = none := by
  rcases h with ⟨_, h2⟩ | ⟨b, _, _, h2, _⟩
  · refine List.find?_eq_none.2 fun x hx => ?_
    obtain ⟨j, hj, rfl⟩ := List.mem_iff_getElem.1 (hp.mem_iff.2 hx)
    rw [← free_perm hp, h2 j hj hj]
    simp
  · omega
/-- .. or that one is the first free one of the sorted ones -/
theorem best_some {s : List Bs} {b : Nat} (hb : b < rest.length) (h : BestAt bef rest rest.length (b : Int)) (hp : rest.Perm s) (hs : s.Pairwise fun x y => x ≤ y) : s.find? (free bef s) = some rest[b] := by
  rcases h with ⟨h1, _⟩ | ⟨b', hb', _, h2, h3, h4⟩
  · omega
  · obtain rfl : b = b' := by omega
    have hfr : free bef s rest[b] = true := by rw [← free_perm hp]; exact h3
    have hm : rest[b] ∈ s := hp.mem_iff.1 (List.getElem_mem hb)
    cases hf : s.find? (free bef s) with
    | none =>
      have := List.find?_eq_none.1 hf _ hm
      rw [hfr] at this
      exact absurd rfl this
    | some x =>
      obtain ⟨k1, k2, k3⟩ := find_least hs hf
      rcases k3 _ hm hfr with e | hle
      · rw [e]
      · obtain ⟨j, hj, rfl⟩ := List.mem_iff_getElem.1 (hp.mem_iff.2 k2)
        have h5 := h4 j hj hj (by rw [free_perm hp]; exact k1)
        rw [bytesLess_eq] at h5
        have h6 := List.not_lt.1 (of_decide_eq_false h5)
        rw [List.le_antisymm hle h6]
/-- of k of those that are left: does none stand ahead of a name? -/
def freeTo (bef : Bs → Bs → Bool) (rest : List Bs) (x : Bs) (k : Nat) : Bool := (rest.take k).all fun y => y == x || !bef y x
theorem freeTo_0 (x : Bs) : freeTo bef rest x 0 = true := rfl
theorem freeTo_all (x : Bs) : freeTo bef rest x rest.length = free bef rest x := by unfold freeTo free; rw [List.take_length]
theorem freeTo_step (x : Bs) {k : Nat} (hk : k < rest.length) : freeTo bef rest x (k + 1) = (freeTo bef rest x k && (rest[k] == x || !bef rest[k] x)) := by
  unfold freeTo
  rw [List.take_succ_eq_append_getElem hk, List.all_append]
  simp
end
theorem erase_ix {rest : List Bs} (hn : rest.Nodup) {k : Nat} (hk : k < rest.length) : rest.eraseIdx k = rest.erase rest[k] := by
  rw [List.eraseIdx_eq_take_drop_succ, erase_at hn hk]
/-- what lies in memory between two rounds: those that are left, and what is merged -/
structure Rst (w0 : World) (o : Option Addr) (cap : Nat) (rest : List Bs) (vM : Value) (done : List Bs) (w : World) : Prop where
  rd : (⟨o, cap, rest⟩ : SRow).ok w
  mr : w.ownsRow w0.heap.size 9 1 vM done.length (strCells done)
  bl : Below w0.heap.size w0 w
  ap : ∀ a, o = some a → vM.ownBlock ≠ some a.block
section
variable {w0 w w' : World} {o : Option Addr} {cap : Nat} {rest done : List Bs} {vM : Value}
theorem Rst.grow (h : Rst w0 o cap rest vM done w) (hb : Below w.heap.size w w') : Rst w0 o cap rest vM done w' := by
  have hg : w.grownBy w' none := ⟨hb.os, hb.tape, hb.output, hb.size, fun j hj _ => hb.block j hj⟩
  exact ⟨h.rd.grow hb, h.mr.kept hg (by cases vM.ownBlock <;> simp), h.bl.trans (hb.mono h.bl.size), h.ap⟩
theorem Rst.app (h : Rst w0 o cap rest vM done w) {done' : List Bs} {vM' : Value} (h0 : 0 < rest.length) (hg : w.grownBy w' vM.ownBlock) (ho : w'.ownsRow w0.heap.size 9 1 vM' done'.length (strCells done')) (hat : vM'.ownBlock = vM.ownBlock ∨ vM'.ownBlock = some w.heap.size) : Rst w0 o cap rest vM' done' w' := by
  have hin : StrsIn w' o rest := fun i hi => by
    obtain ⟨b, f, h1, h2⟩ := h.rd.rd i hi
    exact ⟨b, f, h1, hg.cell h2 (fun e => h.ap _ h1 e.symm)⟩
  refine ⟨⟨h.rd.le, h.rd.cp, hin⟩, ho, h.bl.grown hg h.bl.size (fun k e => (h.mr.lt k e).1), fun a ha => ?_⟩
  rcases hat with e | e
  · rw [e]; exact h.ap a ha
  · rw [e]
    intro e2
    obtain ⟨b, f, h1, h2⟩ := h.rd.rd 0 h0
    simp only at h1
    rw [h1] at ha
    cases ha
    have h3 := cell_blk h2
    have h4 := Option.some.inj e2
    simp only at h3 h4
    omega
theorem Rst.cut (h : Rst w0 o cap rest vM done w) {o' : Option Addr} {cap' : Nat} {rest' : List Bs} (hb : Below w.heap.size w w') (hr : (⟨o', cap', rest'⟩ : SRow).ok w') (ho : o' = o ∨ ∃ g, o' = some ⟨g, 0, none⟩ ∧ w.heap.size ≤ g) : Rst w0 o' cap' rest' vM done w' := by
  have h1 := h.grow hb
  refine ⟨hr, h1.mr, h1.bl, fun a ha => ?_⟩
  rcases ho with e | ⟨g, e, hg⟩
  · rw [e] at ha; exact h.ap a ha
  · rw [e] at ha
    cases ha
    intro e2
    have := (h.mr.lt g e2).2
    omega
end
theorem row_ok {w : World} {B g c : Nat} {l : List Bs} (h : w.ownsRow B 9 1 (.slice (some ⟨g, 0, none⟩) l.length c) l.length (strCells l)) : (⟨some ⟨g, 0, none⟩, c, l⟩ : SRow).ok w := by
  rcases h.2 with ⟨h4, _⟩ | ⟨g', c', cur, h4, _, _, r1, r2, _⟩
  · cases h4
  · cases h4
    refine ⟨r1, r2, fun i hi => ⟨g, 0, rfl, ?_⟩⟩
    have h5 := h.cells (g := g) rfl i (.string (st l[i])) (by unfold strCells; rw [List.getElem?_map, List.getElem?_eq_getElem hi]; rfl)
    rw [Go.WideShapes.add_plain] at h5
    exact h5
theorem strsIn_cells {w : World} {o : Option Addr} {l : List Bs} (h : StrsIn w o l) {a : Addr} (ho : o = some a) : ∀ j u, (strCells l)[j]? = some u → w.cell? (a.add j) = some u := fun j u hu => by
  unfold strCells at hu
  rw [List.getElem?_map] at hu
  cases hl : l[j]? with
  | none => rw [hl] at hu; cases hu
  | some x =>
    rw [hl] at hu
    obtain ⟨hj, rfl⟩ := List.getElem?_eq_some_iff.1 hl
    obtain ⟨b, f, h1, h2⟩ := h j hj
    rw [ho] at h1
    cases h1
    rw [Addr.add_lit, h2]
    exact hu
theorem strCells_one (l : List Bs) : ∀ u ∈ strCells l, u.oneCell' = true := fun u hu => by
  unfold strCells at hu
  obtain ⟨x, _, rfl⟩ := List.mem_map.1 hu
  rfl
theorem strCells_len (l : List Bs) : (strCells l).length = l.length * 1 := by unfold strCells; simp
theorem StrsIn.sub {w : World} {a : Addr} {l : List Bs} {k : Nat} (h : StrsIn w (some a) l) : StrsIn w (some (a.add k)) (l.drop k) := fun i hi => by
  rw [List.length_drop] at hi
  obtain ⟨b, f, h1, h2⟩ := h (k + i) (by omega)
  cases h1
  refine ⟨b, f + k, by rw [Addr.add_lit], ?_⟩
  rw [List.getElem_drop, Nat.add_assoc]
  exact h2
/-- a name is cut out: what stands ahead of it, and behind it -/
theorem run_cutout {w : World} {ty : TypeId} {o o2 : Option Addr} {cap c2 b m : Nat} {l : List Bs} (hok : (⟨o, cap, l⟩ : SRow).ok w) (hb : b < l.length) (hm : m = l.length - (b + 1)) (h256 : l.length ≤ 256) (ho2 : 0 < m → o2 = o.map fun q => q.add (b + 1)) :
    ∃ o' cap' w', (Builtin.append_ #[22, 22] ty #[.slice o b b, .slice o2 m c2]).run Try.prog w = .ok (.slice o' (b + m) cap') w' ∧ (o' = o ∨ ∃ g, o' = some ⟨g, 0, none⟩ ∧ w.heap.size ≤ g) ∧ (⟨o', cap', l.eraseIdx b⟩ : SRow).ok w' ∧ Below w.heap.size w w' := by
  obtain ⟨i0, hi0, hz0, hz1, hz2⟩ := info_parts infoStr
  have hlen : (l.eraseIdx b).length = b + m := by rw [List.length_eraseIdx_of_lt hb]; omega
  by_cases h0 : m = 0
  · subst h0
    have he : l.eraseIdx b = l.take b := by
      rw [List.eraseIdx_eq_take_drop_succ, List.drop_eq_nil_of_le (by omega), List.append_nil]
    have hsrc : Src Try.prog i0.size 22 (.slice o2 0 c2) 0 [] w := by
      cases o2 with
      | none => exact Src.ofNil w Try.underlying22 c2
      | some q => exact Src.ofSlice w Try.underlying22 q 0 c2 [] (by simp) (fun j u h => by cases h) (fun u h => by cases h)
    have hrun := run_append_nothing (P := Try.prog) w 22 22 ty 9 i0 Try.underlying22 hi0 o b b (Nat.le_refl _) (.slice o2 0 c2) hsrc
    refine ⟨o, b, w, hrun, .inl rfl, ⟨by simp only; rw [hlen]; exact Nat.le_refl _, by simp only [maxLen]; omega, ?_⟩, Below.refl _ _⟩
    rw [he]
    intro i hi
    rw [List.length_take] at hi
    obtain ⟨q, f, h1, h2⟩ := hok.rd i (by simp only; omega)
    exact ⟨q, f, h1, by rw [List.getElem_take]; exact h2⟩
  · obtain ⟨q, f, hq1, _⟩ := hok.rd 0 (by simp only; omega)
    simp only at hq1
    subst hq1
    have ho3 := ho2 (by omega)
    simp only [Option.map_some] at ho3
    subst ho3
    have hsub : StrsIn w (some ((⟨q, f, none⟩ : Addr).add (b + 1))) (l.drop (b + 1)) := StrsIn.sub hok.rd
    have htk : StrsIn w (some ⟨q, f, none⟩) (l.take b) := fun i hi => by
      rw [List.length_take] at hi
      obtain ⟨q', f', h1, h2⟩ := hok.rd i (by simp only; omega)
      exact ⟨q', f', h1, by rw [List.getElem_take]; exact h2⟩
    obtain ⟨v', w', hrun, hown, hgrow⟩ := run_append_arg_grows (P := Try.prog) w 22 ty 9 i0 (.string ⟨#[]⟩) 1 16 Try.underlying22 hi0 hz0 hz1 hz2 rfl (by decide) ⟨q, f, none⟩ b b (strCells (l.take b)) (by rw [strCells_len, List.length_take]; omega) (strsIn_cells htk rfl)
      ((⟨q, f, none⟩ : Addr).add (b + 1)) m c2 (strCells (l.drop (b + 1))) (by rw [strCells_len, List.length_drop]; omega) (strsIn_cells hsub rfl) (by omega) (by unfold maxLen; omega) (by omega)
    have e1 : strCells (l.take b) ++ strCells (l.drop (b + 1)) = strCells (l.eraseIdx b) := by
      rw [List.eraseIdx_eq_take_drop_succ]; unfold strCells; rw [List.map_append]
    rw [e1, ← hlen] at hown
    have hbel : Below w.heap.size w w' := (Below.refl _ w).grown hgrow (Nat.le_refl _) (fun k e => by cases e)
    rcases row_len hown with ⟨h1, _⟩ | ⟨g, c, rfl⟩
    · omega
    · have hg := (hown.lt g rfl).1
      rw [hlen] at hrun
      exact ⟨_, c, w', hrun, .inr ⟨g, rfl, hg⟩, row_ok hown, hbel⟩
/-- .. as a step of a region that draws -/
theorem step_cutout {ops : Array Oper} {op : Oper} {a : Act} {w : World} {K : Act → World → Prop} {Q : Exit → Act → World → Prop} {E : Prop} (hgd : op.guard = none) (s x : Operand)
    (ho : op.op = .call { callee := .builtin .append, args := #[s, x], argTypes := #[22, 22] })
    {o o2 : Option Addr} {cap c2 b m : Nat} {l : List Bs} (hok : (⟨o, cap, l⟩ : SRow).ok w) (hb : b < l.length) (hm : m = l.length - (b + 1)) (h256 : l.length ≤ 256)
    (hs : a.eval s = .slice o b b) (hx : a.eval x = .slice o2 m c2) (ho2 : 0 < m → o2 = o.map fun q => q.add (b + 1))
    (hK : ∀ o' cap' w', (o' = o ∨ ∃ g, o' = some ⟨g, 0, none⟩ ∧ w.heap.size ≤ g) → (⟨o', cap', l.eraseIdx b⟩ : SRow).ok w' → Below w.heap.size w w' → K (a.put op.dst (.slice o' (b + m) cap')) w') : if Region.wanted op (yielded ops a.tmps) = true then Oper.wp Try.prog op a w K Q else E := by
  have hw : Region.wanted op (yielded ops a.tmps) = true := by simp [Region.wanted, hgd]
  rw [if_pos hw]
  obtain ⟨o', cap', w', hrun, h1, h2, h3⟩ := run_cutout (ty := op.type) (c2 := c2) hok hb hm h256 ho2
  unfold Oper.wp
  simp [execOp, ho, resolve, invoke, builtin, hs, hx, hrun, Result.andThen]
  exact hK o' cap' w' h1 h2 h3
/-- a row is copied onto one that holds none -/
theorem wpList_copyrow {w : World} {ops : Array Oper} {rest : List Oper} {op : Oper} {a : Act} {Q : Exit → Act → World → Prop} (hgd : op.guard = none) (s x : Operand)
    (ho : op.op = .call { callee := .builtin .append, args := #[s, x], argTypes := #[22, 22] })
    {g : Nat} {o : Option Addr} {cap : Nat} {l : List Bs} (hok : (⟨o, cap, l⟩ : SRow).ok w) (h256 : l.length ≤ 1000000)
    (hs : a.eval s = .slice (some ⟨g, 0, none⟩) 0 0) (hx : a.eval x = .slice o l.length cap)
    (hK : ∀ g' cap' w', (g' = g ∨ w.heap.size ≤ g') → (⟨some ⟨g', 0, none⟩, cap', l⟩ : SRow).ok w' → Below w.heap.size w w' → wpList Try.prog ops Q rest (a.put op.dst (.slice (some ⟨g', 0, none⟩) l.length cap')) w') : wpList Try.prog ops Q (op :: rest) a w := by
  obtain ⟨i0, hi0, hz0, hz1, hz2⟩ := info_parts infoStr
  refine wpList_plain hgd fun K hK' => ?_
  by_cases h0 : l.length = 0
  · obtain rfl := List.eq_nil_of_length_eq_zero h0
    have hsrc : Src Try.prog i0.size 22 (.slice o 0 cap) 0 [] w := by
      cases o with
      | none => exact Src.ofNil w Try.underlying22 cap
      | some q => exact Src.ofSlice w Try.underlying22 q 0 cap [] (by simp) (fun j u h => by cases h) (fun u h => by cases h)
    have hrun := run_append_nothing (P := Try.prog) w 22 22 op.type 9 i0 Try.underlying22 hi0 (some ⟨g, 0, none⟩) 0 0 (Nat.le_refl _) (.slice o 0 cap) hsrc
    rw [List.length_nil] at hx hK
    unfold Oper.wp
    simp [execOp, ho, resolve, invoke, builtin, hs, hx, hrun, Result.andThen]
    exact hK' _ _ (hK g 0 w (.inl rfl) ⟨Nat.le_refl _, Nat.zero_le _, StrsIn.nil _ _⟩ (Below.refl _ _))
  · obtain ⟨q, f, hq1, _⟩ := hok.rd 0 (by simp only; omega)
    simp only at hq1
    subst hq1
    obtain ⟨v', w', hrun, hown, hgrow⟩ := run_append_arg_grows (P := Try.prog) w 22 op.type 9 i0 (.string ⟨#[]⟩) 1 16 Try.underlying22 hi0 hz0 hz1 hz2 rfl (by decide) ⟨g, 0, none⟩ 0 0 [] rfl (fun j u h => by cases h)
      ⟨q, f, none⟩ l.length cap (strCells l) (strCells_len l) (strsIn_cells hok.rd rfl) (by omega) (by unfold maxLen; omega) (by omega)
    rw [List.nil_append, Nat.zero_add] at hown
    have hbel : Below w.heap.size w w' := (Below.refl _ w).grown hgrow (Nat.le_refl _) (fun k e => by cases e)
    rcases row_len hown with ⟨h1, _⟩ | ⟨g', c, rfl⟩
    · omega
    · have hg := (hown.lt g' rfl).1
      unfold Oper.wp
      simp [execOp, ho, resolve, invoke, builtin, hs, hx, hrun, Result.andThen]
      exact hK' _ _ (hK g' c w' (.inr hg) (row_ok hown) hbel)
def lenOfV : Value → Nat
  | .slice _ n _ => n
  | _ => 0
end Go.Proofs.Ytccdmoogjcgcfaa
