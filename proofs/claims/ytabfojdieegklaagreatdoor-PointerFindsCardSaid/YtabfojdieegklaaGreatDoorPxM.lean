/-
  MATHEMATICS: a node of a tree of the call's own is written over, in memory.
-/
import Derived.Test.YtabfojdieegklaaGreatDoorPxJ
import Derived.Test.YtabfojdieegklaaGreatDoorVsC
namespace Go.Proofs.YtabfojdieegklaaGreatDoor
open Go.RowKit

def psetT : List Bs → Vt → Vt → Vt
  | [], _, n => n
  | s :: r, y, n => match y.is[(belowM y.m s).1.toNat]? with
    | some z => .mk y.k y.t y.ks y.o y.c (y.is.set (belowM y.m s).1.toNat (psetT r z n))
    | none => y
theorem psetT_m : ∀ (path : List Bs) (y n : Vt), (psetT path y n).m = psetM path y.m n.m
  | [], _, _ => rfl
  | s :: r, y, n => by
    obtain ⟨k, t, ks, o, c, is⟩ := y
    rw [psetT, psetM]
    have e : (Vt.mk k t ks o c is).m.is = is.map Vt.m := by rw [Vt.m_mk]; rfl
    rw [e]
    simp only [Vt.is]
    generalize hi : (belowM (Vt.mk k t ks o c is).m s).1.toNat = i
    rw [List.getElem?_map]
    cases hz : is[i]? with
    | none => rfl
    | some z =>
      simp only [Option.map_some, Vt.k, Vt.t, Vt.ks, Vt.o, Vt.c]
      rw [Vt.m_mk, List.map_set, psetT_m r z n, Vt.m_mk]
      simp only [Vl.k, Vl.t, Vl.ks]
theorem psetT_same (s : Bs) (r : List Bs) (y n : Vt) : (psetT (s :: r) y n).k = y.k ∧ (psetT (s :: r) y n).t = y.t ∧ (psetT (s :: r) y n).ks = y.ks ∧ (psetT (s :: r) y n).row = y.row := by
  obtain ⟨k, t, ks, o, c, is⟩ := y
  rw [psetT]
  split
  · refine ⟨rfl, rfl, rfl, ?_⟩
    simp only [Vt.row, Vt.o, Vt.is, Vt.c, List.length_set]
  · exact ⟨rfl, rfl, rfl, rfl⟩
theorem four_freeP {W : World} {g : Nat} {T : TypeId} {cs : Array Value} (h : Whole W g T cs) : W.frozen? ⟨g, 0, none⟩ = false ∧ W.frozen? ⟨g, 1, none⟩ = false ∧ W.frozen? ⟨g, 2, none⟩ = false ∧ W.frozen? ⟨g, 3, none⟩ = false := ⟨h.free 0, h.free 1, h.free 2, h.free 3⟩
/-- the four cells of a node, written -/
def p4 (W : World) (b p : Nat) (n : Vt) : World := (((W.setCell ⟨b, p, none⟩ (.int .i64 n.k)).setCell ⟨b, p + 1, none⟩ (.string (st n.t))).setCell ⟨b, p + 2, none⟩ n.ks.v).setCell ⟨b, p + 3, none⟩ n.row
theorem p4_other {W : World} {b p k : Nat} {n : Vt} (h : k ≠ b) : (p4 W b p n).heap[k]? = W.heap[k]? := by
  unfold p4
  rw [Below.heap_setCell _ _ _ _ (by exact h), Below.heap_setCell _ _ _ _ (by exact h), Below.heap_setCell _ _ _ _ (by exact h), Below.heap_setCell _ _ _ _ (by exact h)]
theorem p4_grown (W : World) (b p : Nat) (n : Vt) : W.grownBy (p4 W b p n) (some b) :=
  ⟨rfl, rfl, rfl, by simp [p4, World.setCell], fun k _ hne => p4_other (fun e => hne (by rw [e]))⟩
theorem p4_whole {W : World} {b p : Nat} {n : Vt} {T : TypeId} {cs : Array Value} (h : Whole W b T cs) : Whole (p4 W b p n) b T ((((cs.setIfInBounds p (.int .i64 n.k)).setIfInBounds (p + 1) (.string (st n.t))).setIfInBounds (p + 2) n.ks.v).setIfInBounds (p + 3) n.row) :=
  (((h.put p _).put (p + 1) _).put (p + 2) _).put (p + 3) _
theorem p4_item {W : World} {b p : Nat} {n : Vt} {T : TypeId} {cs : Array Value} (h : Whole W b T cs) (hs : p + 4 ≤ cs.size) : ItemAt (p4 W b p n) b p n := by
  have hw := p4_whole (n := n) (p := p) h
  refine ⟨?_, ?_, ?_, ?_⟩
  · rw [hw.at_ p]; simp [Array.getElem?_setIfInBounds]; omega
  · rw [hw.at_ (p + 1)]; simp [Array.getElem?_setIfInBounds]; omega
  · rw [hw.at_ (p + 2)]; simp [Array.getElem?_setIfInBounds]; omega
  · rw [hw.at_ (p + 3)]; simp [Array.getElem?_setIfInBounds]; omega
theorem cell_same {W W' : World} {b i : Nat} (h : W'.heap[b]? = W.heap[b]?) : W'.cell? ⟨b, i, none⟩ = W.cell? ⟨b, i, none⟩ := by unfold World.cell?; rw [h]
theorem ItemAt.same {W W' : World} {b p : Nat} {x : Vt} (h : ItemAt W b p x) (e : W'.heap[b]? = W.heap[b]?) : ItemAt W' b p x :=
  ⟨(cell_same e).trans h.c0, (cell_same e).trans h.c1, (cell_same e).trans h.c2, (cell_same e).trans h.c3⟩
/-- a tree that has no row in a block of values has nothing there -/
theorem own_avoid {B b : Nat} {S : Nat → Prop} {W : World} {x : Vt} {cur : Array Value} (h : x.Own 37 9 B S W) (hb : b ∉ x.rows) (hc : W.heap[b]? = some (.cells cur 37 (0, 0))) : x.Own 37 9 B (fun g => g ≠ b) W := by
  induction h with
  | mk k t ks o c is hks hkb hrow hrb _ ih =>
    rw [Vt.rows_mk] at hb
    refine .mk k t ks o c is hks (fun g hg e => ?_) hrow (fun g hg e => hb (List.mem_append_left _ (by rw [← e, hg]; simp))) (fun i hi => ih i hi (fun e => hb (List.mem_append_right _ (List.mem_flatMap.2 ⟨is[i], List.getElem_mem hi, e⟩))))
    obtain ⟨c2, h2⟩ := ownT' hks g hg
    rw [e, hc] at h2
    cases h2
theorem own_p4 {B b p : Nat} {S : Nat → Prop} {W : World} {x n : Vt} {cur : Array Value} (h : x.Own 37 9 B S W) (hb : b ∉ x.rows) (hc : W.heap[b]? = some (.cells cur 37 (0, 0))) : x.Own 37 9 B (fun _ => True) (p4 W b p n) :=
  ((own_avoid h hb hc).kept (p4_grown W b p n) (fun _g e hs => hs (Option.some.inj e).symm)).kind (fun _ _ => trivial)
theorem rows_apart : ∀ (l : List Vt), (l.flatMap Vt.rows).Nodup → ∀ (i j : Nat) (hi : i < l.length) (hj : j < l.length), i ≠ j → ∀ g ∈ l[i].rows, g ∉ l[j].rows
  | [], _, i, _, hi, _, _, _, _ => absurd hi (Nat.not_lt_zero _)
  | x :: l, h, i, j, hi, hj, hne, g, hg => by
    rw [List.flatMap_cons] at h
    obtain ⟨h1, h2, h3⟩ := List.nodup_append.1 h
    cases i with
    | zero =>
      cases j with
      | zero => exact absurd rfl hne
      | succ j => exact fun e => h3 g hg g (List.mem_flatMap.2 ⟨_, List.getElem_mem (by simpa using hj), e⟩) rfl
    | succ i =>
      cases j with
      | zero => exact fun e => h3 g e g (List.mem_flatMap.2 ⟨l[i]'(by simpa using hi), List.getElem_mem _, hg⟩) rfl
      | succ j => exact rows_apart l h2 i j (by simpa using hi) (by simpa using hj) (by omega) g hg
theorem rows_item {l : List Vt} (h : (l.flatMap Vt.rows).Nodup) : ∀ (i : Nat) (hi : i < l.length), l[i].rows.Nodup := by
  induction l with
  | nil => intro i hi; exact absurd hi (Nat.not_lt_zero _)
  | cons x l ih =>
    intro i hi
    rw [List.flatMap_cons] at h
    obtain ⟨h1, h2, h3⟩ := List.nodup_append.1 h
    cases i with
    | zero => exact h1
    | succ i => exact ih h2 i (by simpa using hi)
theorem vtC_setV : ∀ (l : List Vt) (i : Nat) (n : Vt), i < l.length → ((((vtC l).set (i * 4) (.int .i64 n.k)).set (i * 4 + 1) (.string (st n.t))).set (i * 4 + 2) n.ks.v).set (i * 4 + 3) n.row = vtC (l.set i n)
  | [], i, _, h => absurd h (Nat.not_lt_zero _)
  | x :: l, 0, n, _ => by simp [vtC]
  | x :: l, i + 1, n, h => by
    have ih := vtC_setV l i n (by simpa using h)
    unfold vtC at ih ⊢
    rw [List.set_cons_succ, List.flatMap_cons, List.flatMap_cons, ← ih, show (i + 1) * 4 = i * 4 + 1 + 1 + 1 + 1 by omega]
    simp
theorem vtC_same : ∀ (l : List Vt) (i : Nat) (hi : i < l.length) (n : Vt), n.k = l[i].k → n.t = l[i].t → n.ks = l[i].ks → n.row = l[i].row → vtC (l.set i n) = vtC l
  | [], i, h, _, _, _, _, _ => absurd h (Nat.not_lt_zero _)
  | x :: l, 0, _, n, h1, h2, h3, h4 => by
    simp only [List.getElem_cons_zero] at h1 h2 h3 h4
    simp [vtC, h1, h2, h3, h4]
  | x :: l, i + 1, h, n, h1, h2, h3, h4 => by
    have ih := vtC_same l i (by simpa using h) n (by simpa using h1) (by simpa using h2) (by simpa using h3) (by simpa using h4)
    unfold vtC at ih ⊢
    rw [List.set_cons_succ, List.flatMap_cons, List.flatMap_cons, ih]
/-- a cell of a row of the call's own is written -/
theorem own_putV {w : World} {base e size g n cap : Nat} {xs : List Value} (h : w.ownsRow base e size (.slice (some ⟨g, 0, none⟩) n cap) n xs) (i : Nat) (u : Value) : (w.setCell ⟨g, i, none⟩ u).ownsRow base e size (.slice (some ⟨g, 0, none⟩) n cap) n (xs.set i u) := by
  obtain ⟨h1, h2⟩ := h
  refine ⟨by rw [List.length_set]; exact h1, ?_⟩
  rcases h2 with ⟨hv, _⟩ | ⟨g', cap', cur, hv, hb, hh, hc, hm, hs, ht⟩
  · cases hv
  · injection hv with e1 e2 e3
    have e4 : g = g' := by injection e1 with e5; injection e5
    subst e4
    subst e3
    refine .inr ⟨g, cap, cur.setIfInBounds i u, rfl, hb, Whole.put (show Whole w g e cur from hh) i u, hc, hm, by rw [Array.size_setIfInBounds]; exact hs, ?_⟩
    rw [← ht, Array.toList_setIfInBounds, List.take_set]
theorem own_p4row {W : World} {B g len cap i : Nat} {l : List Vt} {n : Vt} (h : W.ownsRow B 37 4 (.slice (some ⟨g, 0, none⟩) len cap) len (vtC l)) (hi : i < l.length) : (p4 W g (i * 4) n).ownsRow B 37 4 (.slice (some ⟨g, 0, none⟩) len cap) len (vtC (l.set i n)) := by
  rw [← vtC_setV l i n hi]
  exact own_putV (own_putV (own_putV (own_putV h _ _) _ _) _ _) _ _
theorem pset_own {V : World} {B : Nat} {n : Vt} (hn : n.Own 37 9 B (fun _ => True) V) : ∀ (path : List Bs) (b p : Nat) (y : Vt) (zb zp : Nat) (z : Vt) (cur : Array Value), y.Own 37 9 B (fun _ => True) V → y.rows.Nodup → b ∉ y.rows →
    V.heap[b]? = some (.cells cur 37 (0, 0)) → p + 4 ≤ cur.size → b ∉ n.rows → (∀ g ∈ y.rows, g ∉ n.rows) → ItemAt V b p y → (nodesM path (b, p, y)).getLast? = some (zb, zp, z) → (nodesM path (b, p, y)).length = path.length + 1 →
    (psetT path y n).Own 37 9 B (fun _ => True) (p4 V zb zp n) ∧ ItemAt (p4 V zb zp n) b p (psetT path y n) ∧ ((path = [] ∧ zb = b ∧ zp = p) ∨ (path ≠ [] ∧ zb ∈ y.rows)) ∧ ∃ cz, V.heap[zb]? = some (.cells cz 37 (0, 0)) ∧ zp + 4 ≤ cz.size := by
  intro path
  induction path with
  | nil =>
    intro b p y zb zp z cur hy hnd hby hcb hcs hbn hyn hat hl _
    have e := Option.some.inj hl
    injection e with e1 e2
    injection e2 with e2 e3
    subst e1 e2
    exact ⟨own_p4 hn hbn hcb, p4_item (show Whole V b 37 cur from hcb) hcs, .inl ⟨rfl, rfl, rfl⟩, cur, hcb, hcs⟩
  | cons s r ih =>
    intro b p y zb zp z cur hy hnd hby hcb hcs hbn hyn hat hl hlen
    obtain ⟨k, t, ks, o, c, is⟩ := y
    have hlen2 : (nodesM (s :: r) (b, p, Vt.mk k t ks o c is)).length = r.length + 1 + 1 := by simpa using hlen
    rw [nodesM] at hl hlen2
    simp only [Vt.o, Vt.is] at hl hlen2
    have hp : psetT (s :: r) (Vt.mk k t ks o c is) n = match is[(belowM (Vt.mk k t ks o c is).m s).1.toNat]? with
      | some z => .mk k t ks o c (is.set (belowM (Vt.mk k t ks o c is).m s).1.toNat (psetT r z n))
      | none => Vt.mk k t ks o c is := rfl
    generalize (belowM (Vt.mk k t ks o c is).m s).1.toNat = i at hl hlen2 hp
    cases hb2 : (belowM (Vt.mk k t ks o c is).m s).2 with
    | false => rw [hb2] at hlen2; simp at hlen2
    | true =>
      rw [hb2, if_pos rfl] at hl hlen2
      cases ho : o with
      | none => rw [ho] at hlen2; simp at hlen2
      | some a =>
        cases hx : is[i]? with
        | none => rw [ho, hx] at hlen2; simp at hlen2
        | some x =>
          rw [ho, hx] at hl hlen2
          rw [hx] at hp
          simp only at hl hlen2 hp
          have hi : i < is.length := by
            rcases Nat.lt_or_ge i is.length with h | h
            · exact h
            · rw [List.getElem?_eq_none h] at hx; cases hx
          have hxe : is[i] = x := by rw [List.getElem?_eq_getElem hi] at hx; exact Option.some.inj hx
          cases hy with
          | mk _ _ _ _ _ _ hks hkb hrow hrb hit =>
            rw [ho] at hrow
            have hsh : ∃ bb, a = ⟨bb, 0, none⟩ := by
              rcases hrow.2 with ⟨_, h0⟩ | ⟨g', cap', cur', hv, _⟩
              · omega
              · injection hv with e1
                exact ⟨g', Option.some.inj e1⟩
            obtain ⟨bb, rfl⟩ := hsh
            simp only [Nat.zero_add] at hl hlen2
            obtain ⟨cb, hcbb⟩ := ownT' hrow bb rfl
            have hcz : i * 4 + 4 ≤ cb.size := by
              rcases hrow.2 with ⟨_, h0⟩ | ⟨g', cap', cur', hv, _, hh, hc1, _, hc2, _⟩
              · omega
              · injection hv with e1 _ e3
                have e5 : bb = g' := by injection e1 with e6; injection e6
                subst e5
                rw [hh] at hcbb
                cases hcbb
                rw [hc2]; omega
            have hrw : (Vt.mk k t ks o c is).rows = bb :: is.flatMap Vt.rows := by rw [Vt.rows_mk, ho]; rfl
            rw [hrw] at hnd hby hyn
            obtain ⟨hbf, hnf⟩ := List.nodup_cons.1 hnd
            have hxr : ∀ g ∈ x.rows, g ∈ is.flatMap Vt.rows := fun g hg => List.mem_flatMap.2 ⟨x, by rw [← hxe]; exact List.getElem_mem hi, hg⟩
            have hItem : ItemAt V bb (i * 4) x := by
              obtain ⟨h0, h1, h2, h3⟩ := vtC_at is i hi
              rw [hxe] at h0 h1 h2 h3
              refine ⟨?_, ?_, ?_, ?_⟩
              · have h := hrow.cells (g := bb) rfl _ _ h0; rwa [Addr.add_lit, Nat.zero_add] at h
              · have h := hrow.cells (g := bb) rfl _ _ h1; rwa [Addr.add_lit, Nat.zero_add] at h
              · have h := hrow.cells (g := bb) rfl _ _ h2; rwa [Addr.add_lit, Nat.zero_add] at h
              · have h := hrow.cells (g := bb) rfl _ _ h3; rwa [Addr.add_lit, Nat.zero_add] at h
            have hne : nodesM r (bb, i * 4, x) ≠ [] := fun e => by rw [e] at hlen2; simp at hlen2
            have hl2 : (nodesM r (bb, i * 4, x)).getLast? = some (zb, zp, z) := by
              rw [List.getLast?_cons] at hl
              cases hg : (nodesM r (bb, i * 4, x)).getLast? with
              | none => rw [List.getLast?_eq_none_iff] at hg; exact absurd hg hne
              | some q => rw [hg] at hl; exact hl
            have hxo := hit i hi
            rw [hxe] at hxo
            obtain ⟨g1, g2, g3, cz, g4, g5⟩ := ih bb (i * 4) x zb zp z cb hxo (by rw [← hxe]; exact rows_item hnf i hi) (fun e => hbf (hxr _ e)) hcbb hcz (hyn bb (List.mem_cons_self ..)) (fun g hg => hyn g (List.mem_cons_of_mem _ (hxr g hg))) hItem hl2 (by simpa using hlen2)
            have hzr : zb = bb ∨ zb ∈ x.rows := by rcases g3 with ⟨_, h, _⟩ | ⟨_, h⟩; exact .inl h; exact .inr h
            have hzin : zb ∈ (Vt.mk k t ks o c is).rows := by
              rw [hrw]
              rcases hzr with h | h
              · rw [h]; exact List.mem_cons_self ..
              · exact List.mem_cons_of_mem _ (hxr _ h)
            have hzb : zb ≠ b := fun e => hby (by rw [← e, ← hrw]; exact hzin)
            rw [ho] at hp hzin
            rw [hp]
            have hks' : (p4 V zb zp n).ownsRow B 9 1 ks.v ks.l.length (strC ks.l) := hks.kept (p4_grown V zb zp n) (by
              cases hv : ks.v.ownBlock with
              | none => exact .inl rfl
              | some g =>
                refine .inr (fun e => ?_)
                obtain ⟨c2, h2⟩ := ownT' hks g hv
                rw [Option.some.inj e, g4] at h2
                cases h2)
            have hrow' : (p4 V zb zp n).ownsRow B 37 4 (.slice (some ⟨bb, 0, none⟩) is.length c) is.length (vtC (is.set i (psetT r x n))) := by
              rcases g3 with ⟨e0, e1, e2⟩ | ⟨e0, e1⟩
              · subst e0 e1 e2
                exact own_p4row hrow hi
              · have hzbb : zb ≠ bb := fun e => hbf (by rw [← e]; exact hxr _ e1)
                cases r with
                | nil => exact absurd rfl e0
                | cons s' r' =>
                  obtain ⟨q1, q2, q3, q4⟩ := psetT_same s' r' x n
                  rw [vtC_same is i hi _ (by rw [hxe]; exact q1) (by rw [hxe]; exact q2) (by rw [hxe]; exact q3) (by rw [hxe]; exact q4)]
                  exact hrow.kept (p4_grown V zb zp n) (.inr (fun e => hzbb (Option.some.inj e).symm))
            refine ⟨.mk k t ks (some ⟨bb, 0, none⟩) c _ hks' (fun _ _ => trivial) (by rw [List.length_set]; exact hrow') (fun _ _ => trivial) (fun j hj => ?_), ?_, .inr ⟨by simp, hzin⟩, cz, g4, g5⟩
            · have hj' : j < is.length := by rw [List.length_set] at hj; exact hj
              by_cases hji : j = i
              · subst hji
                rw [List.getElem_set_self]
                exact g1
              · rw [List.getElem_set_ne (by omega)]
                refine own_p4 (hit j hj') (fun e => ?_) g4
                rcases hzr with h | h
                · exact hbf (by rw [← h]; exact List.mem_flatMap.2 ⟨_, List.getElem_mem hj', e⟩)
                · rw [← hxe] at h
                  exact rows_apart is hnf i j hi hj' (by omega) zb h e
            · have h1 := hat.same (p4_other (W := V) (p := zp) (n := n) (fun e => hzb e.symm))
              rw [ho] at h1
              exact ⟨h1.c0, h1.c1, h1.c2, h1.c3.trans (by simp [Vt.row, Vt.o, Vt.is, Vt.c])⟩
end Go.Proofs.YtabfojdieegklaaGreatDoor
