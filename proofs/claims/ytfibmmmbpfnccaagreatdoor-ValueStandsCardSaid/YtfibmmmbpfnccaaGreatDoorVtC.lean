/-
  WALKS: value.asTheyStand; what remake makes.
-/
import Derived.Test.YtfibmmmbpfnccaaGreatDoorVtW
import Derived.Laws.OwnMore
import Derived.Maps.AppendAt
import Derived.Deep.RegionLaw
namespace Go.Proofs.YtfibmmmbpfnccaaGreatDoor
open Go.RowKit

theorem info_partsV {t : TypeId} {z : Value} {s b : Nat} (h : (Tryz.prog.info? t).map (fun i => (i.zero, i.size, i.bytes)) = some (some z, s, b)) : ∃ i, Tryz.prog.info? t = some i ∧ i.zero = some z ∧ i.size = s ∧ i.bytes = b := by
  cases hi : Tryz.prog.info? t with
  | none => rw [hi] at h; cases h
  | some i =>
    rw [hi] at h
    simp only [Option.map_some, Option.some.injEq, Prod.mk.injEq] at h
    exact ⟨i, rfl, h.1, h.2.1, h.2.2⟩
theorem infoIv : (Tryz.prog.info? 3).map (fun i => (i.zero, i.size, i.bytes)) = some (some (.int .i64 0), 1, 8) := by kernel_rfl
theorem infoSv : (Tryz.prog.info? 9).map (fun i => (i.zero, i.size, i.bytes)) = some (some (.string ⟨#[]⟩), 1, 16) := by kernel_rfl
theorem infoVv : (Tryz.prog.info? 25).map (fun i => (i.zero, i.size, i.bytes)) = some (some (.agg #[.int .i64 0, .string ⟨#[]⟩, .slice none 0 0, .slice none 0 0]), 4, 72) := by kernel_rfl
theorem made_mapV (z : Value) (n : Nat) : madeCells #[z] n = ((List.range n).map fun _ => z).toArray := by
  rw [← Array.toList_inj, toList_madeCells_one]
  simp [List.map_const']
theorem mk_intsV (n : Nat) (hn : n ≤ 1000000) (W : World) : (Instr.makeSlice 96 (.int .i64 (n : Int)) (.int .i64 (n : Int))).run Tryz.prog W = .ok (.slice (some ⟨W.heap.size, 0, none⟩) n n) (W.alloc (.cells ((List.range n).map fun _ => Value.int .i64 0).toArray 3)) := by
  obtain ⟨i0, hi, hz0, hz1, hz2⟩ := info_partsV infoIv
  have h := run_make W 96 3 i0 (.int .i64 0) Tryz.underlying96 hi hz0 .i64 .i64 (n : Int) (n : Int) (by omega) (by omega) (by rw [hz2]; omega) (by omega)
  rw [hz1, Nat.mul_one, Int.toNat_natCast] at h
  rw [h, ← made_mapV]
  rfl
theorem range_setV {α : Type} (n k : Nat) (f : Nat → α) (v : α) : ((List.range n).map f).toArray.setIfInBounds k v = ((List.range n).map fun j => if j = k then v else f j).toArray := by
  apply Array.ext
  · simp
  · intro i h1 h2
    simp at h1 h2
    by_cases hk : k = i
    · subst hk; simp
    · rw [Array.getElem_setIfInBounds_ne (by simpa using h1) hk]
      simp
      intro h
      exact absurd h.symm hk
/-- numbers as cells -/
def natC (l : List Nat) : List Value := l.map fun (i : Nat) => Value.int .i64 (i : Int)
/-- a row of the call's own, of numbers -/
def NatsPost (B : Nat) (l : List Nat) (w : World) (e : Ending) (w' : World) : Prop := ∃ v, e = .returned v ∧ w'.ownsRow B 3 1 v l.length (natC l) ∧ Below w.heap.size w w'
def rowN (n j : Nat) : Array Value := ((List.range n).map fun a => if a < j then Value.int .i64 (a : Int) else .int .i64 0).toArray
theorem rowN_at {n j a : Nat} (h : a < n) : (rowN n j)[a]? = some (if a < j then Value.int .i64 (a : Int) else .int .i64 0) := by unfold rowN; simp [h]
theorem rowN_set {n j : Nat} : (rowN n j).setIfInBounds j (.int .i64 (j : Int)) = rowN n (j + 1) := by
  unfold rowN
  rw [range_setV]
  congr 1
  refine List.map_congr_left (fun a _ => ?_)
  by_cases h : a = j
  · subst h; rw [if_pos rfl, if_pos (by omega)]
  · rw [if_neg h]
    by_cases h2 : a < j
    · rw [if_pos h2, if_pos (by omega)]
    · rw [if_neg h2, if_neg (by omega)]
theorem rowN_own {w : World} {g n : Nat} {T : TypeId} (h : Whole w g T (rowN n n)) {B : Nat} (hB : B ≤ g) (hn : n ≤ maxLen) : w.ownsRow B T 1 (.slice (some ⟨g, 0, none⟩) n n) n (natC (List.range n)) := by
  have e : rowN n n = (natC (List.range n)).toArray := by
    unfold rowN natC
    congr 1
    refine List.map_congr_left (fun a ha => ?_)
    rw [if_pos (List.mem_range.1 ha)]
  rw [e] at h
  refine ⟨by unfold natC; simp, .inr ⟨g, n, _, rfl, hB, h, Nat.le_refl _, hn, by unfold natC; simp, ?_⟩⟩
  exact List.take_of_length_le (by unfold natC; simp)
theorem below_put {B : Nat} {a w : World} (h : Below B a w) {g : Nat} (hg : B ≤ g) (i : Nat) (u : Value) : Below B a (w.setCell ⟨g, i, none⟩ u) := h.setCell (by simp only; exact hg) u
set_option maxHeartbeats 4000000 in
set_option maxRecDepth 1000000 in
theorem stand_any (x : Vt) (w : World) (hn : x.is.length ≤ 1000000) : Calls Tryz.prog 64 #[x.v] w (NatsPost w.heap.size (List.range x.is.length) w) := by
  have hb0 := below_alloc w (.cells #[.int .i64 x.k, .string (st x.t), x.ks.v, x.row] 25)
  have hw0 := Whole.made w 25 #[.int .i64 x.k, .string (st x.t), x.ks.v, x.row]
  have HP : Hq (∀ (v : Value) W', W'.ownsRow w.heap.size 3 1 v x.is.length (natC (List.range x.is.length)) → Below w.heap.size w W' → NatsPost w.heap.size (List.range x.is.length) w (.returned v) W') := hq (fun v W' h h2 => ⟨v, rfl, by rw [List.length_range]; exact h, h2⟩)
  generalize NatsPost w.heap.size (List.range x.is.length) w = PP at *
  unfold Vt.v Vt.row at *
  generalize x.is.length = n at *
  go_enter Tryz.func64, Tryz.ntmps64
  go_upto_region 1 with fail
  obtain ⟨c0, c1, c2, c3⟩ := four_cells hw0
  have HB0 := hq hb0
  have hsz := hb0.size
  clear hb0 hw0
  generalize (w.alloc (.cells #[.int .i64 x.k, .string (st x.t), x.ks.v, .slice x.o n x.c] 25)) = V0 at *
  have hmk := mk_intsV n hn
  go_upto_region 3 with fail
  have HW1 := hq (Whole.made V0 3 (rowN n 0))
  have HB1 := hq (HB0.o.trans ((below_alloc V0 (.cells (rowN n 0) 3)).mono hsz))
  have e0 : ((List.range n).map fun _ => Value.int .i64 0).toArray = rowN n 0 := by
    unfold rowN
    congr 1
  rw [e0]
  clear e0 hmk c0 c1 c2 c3 HB0
  generalize (V0.alloc (.cells (rowN n 0) 3)) = V1 at *
  generalize hg : V0.heap.size = g at *
  clear hg
  go_loopw [4, 11] (fun _ i wr => ∃ j : Nat, j ≤ n ∧ i = .int .i64 (j : Int) ∧ Hq (Whole wr g 3 (rowN n j)) ∧ Hq (Below w.heap.size w wr)) (fun _ i _ => n - (intOf i).toNat)
  case atStart => exact ⟨0, Nat.zero_le _, rfl, HW1, HB1⟩
  case round =>
    obtain ⟨j, hj, rfl, hW, hb⟩ := hrel
    by_cases h : j < n
    · have hz : (j : Int) < (n : Int) := by omega
      have hc := (hW.o.at_ j).trans (rowN_at h)
      have hf := hW.o.free j
      have HW2 : Hq (Whole (wr.setCell ⟨g, j, none⟩ (.int .i64 (j : Int))) g 3 (rowN n (j + 1))) := hq (by
        have h1 := hW.o.put j (.int .i64 (j : Int))
        rwa [rowN_set] at h1)
      have HB2 := hq (below_put hb.o hsz j (.int .i64 (j : Int)))
      clear hW hb
      go_wp2_with fail
      go_roundw
      case rel => exact ⟨j + 1, h, int_eq (by omega), HW2, HB2⟩
      case measure => simp [intOf]; omega
    · have hz : ¬ (j : Int) < (n : Int) := by omega
      have HV := hq (HP.o _ wr (rowN_own (by
        have := hW.o
        rwa [show j = n by omega] at this) hsz (by unfold maxLen; omega)) hb.o)
      clear HP hW
      go_wp2_with fail
      exact HV.o

/-- what remake holds between two rounds -/
structure RemI (B : Nat) (W : World) (gv gr gw : Nat) (cv : Array Value) (ov : Value) (od : List Nat) (k : Int) (t : Bs) (kr : SRow) (o : Option Addr) (c : Nat) (ys : List Vt) (w : World) : Prop where
  bl : Below W.heap.size W w
  sz : B ≤ w.heap.size
  hv : Whole w gv 25 cv
  hr : Whole w gr 25 #[.int .i64 0, .string ⟨#[]⟩, .slice none 0 0, .slice none 0 0]
  hw : Whole w gw 25 #[.int .i64 k, .string (st t), kr.v, .slice o ys.length c]
  od : w.ownsRow B 3 1 ov od.length (natC od)
  ks : w.ownsRow B 9 1 kr.v kr.l.length (strC kr.l)
  it : w.ownsRow B 25 4 (.slice o ys.length c) ys.length (vtC ys)
  ch : ∀ y ∈ ys, y.Own 25 9 B (fun g => kr.v.ownBlock ≠ some g ∧ (Value.slice o ys.length c).ownBlock ≠ some g) w
  l0 : W.heap.size ≤ gv ∧ gv < B
  l1 : W.heap.size ≤ gw ∧ gw < B
  l2 : W.heap.size ≤ gr ∧ gr < B
  ne : gv ≠ gw
  nr : gr ≠ gw
theorem Vt.Own.lt {tV tS : TypeId} {B : Nat} {S : Nat → Prop} {w : World} {x : Vt} (h : Vt.Own tV tS B S w x) : Vt.Own tV tS B (fun g => S g ∧ B ≤ g ∧ g < w.heap.size) w x := by
  induction h with
  | mk k t ks o c is hks hkb hrow hrb _ ih => exact .mk k t ks o c is hks (fun g hg => ⟨hkb g hg, hks.lt g hg⟩) hrow (fun g hg => ⟨hrb g hg, hrow.lt g hg⟩) ih
theorem row_base {w : World} {B B' e size n : Nat} {v : Value} {xs : List Value} (h : w.ownsRow B e size v n xs) (hb : B' ≤ B) : w.ownsRow B' e size v n xs := by
  refine ⟨h.1, ?_⟩
  rcases h.2 with h2 | ⟨g, cap, cur, h1, h2, h3⟩
  · exact .inl h2
  · exact .inr ⟨g, cap, cur, h1, Nat.le_trans hb h2, h3⟩
theorem Vt.Own.base {tV tS : TypeId} {B B' : Nat} {S : Nat → Prop} {w : World} {x : Vt} (h : Vt.Own tV tS B S w x) (hb : B' ≤ B) : Vt.Own tV tS B' S w x := by
  induction h with
  | mk k t ks o c is hks hkb hrow hrb _ ih => exact .mk k t ks o c is (row_base hks hb) hkb (row_base hrow hb) hrb ih
theorem row_setV {w : World} {B e size n : Nat} {v : Value} {xs : List Value} (h : w.ownsRow B e size v n xs) {g i : Nat} (hg : g < B) (u : Value) : (w.setCell ⟨g, i, none⟩ u).ownsRow B e size v n xs :=
  h.kept (row := some g) ⟨rfl, rfl, rfl, by simp [World.setCell], fun k _ hne => Below.heap_setCell w ⟨g, i, none⟩ u k (fun e => hne (by rw [e]))⟩ (by
    cases hv : v.ownBlock with
    | none => exact .inl rfl
    | some b => exact .inr (fun e => by have h1 := (h.lt b hv).1; have h2 := Option.some.inj e; omega))
theorem Vt.Own.set {tV tS : TypeId} {B : Nat} {S : Nat → Prop} {w : World} {x : Vt} (h : Vt.Own tV tS B S w x) {g i : Nat} (hg : g < B) (u : Value) : Vt.Own tV tS B S (w.setCell ⟨g, i, none⟩ u) x := by
  induction h with
  | mk k t ks o c is hks hkb hrow hrb _ ih => exact .mk k t ks o c is (row_setV hks hg u) hkb (row_setV hrow hg u) hrb ih
theorem ownT' {w : World} {B e n size : Nat} {v : Value} {xs : List Value} (h : w.ownsRow B e size v n xs) : ∀ g, v.ownBlock = some g → ∃ cur, w.heap[g]? = some (.cells cur e (0, 0)) := fun g hg => by
  rcases h.2 with ⟨rfl, _⟩ | ⟨g', cap', cur, rfl, hb, hg', _⟩
  · cases hg
  · have : g' = g := by simpa [Value.ownBlock] using hg
    subst this
    exact ⟨cur, hg'⟩
theorem own_apartV {w : World} {B e n size B' e' n' size' : Nat} {v v' : Value} {xs xs' : List Value} (h : w.ownsRow B e size v n xs) (h' : w.ownsRow B' e' size' v' n' xs') (hne : e ≠ e') : v.ownBlock = none ∨ v.ownBlock ≠ v'.ownBlock := by
  cases hv : v.ownBlock with
  | none => exact .inl rfl
  | some g =>
    refine .inr fun e2 => ?_
    obtain ⟨c, hc⟩ := ownT' h g hv
    obtain ⟨c', hc'⟩ := ownT' h' g e2.symm
    rw [hc] at hc'
    cases hc'
    exact hne rfl
theorem whole_grownV {w w' : World} {g : Nat} {t : TypeId} {cs : Array Value} {row : Option Nat} (h : Whole w g t cs) (hg : w.grownBy w' row) (hne : some g ≠ row) : Whole w' g t cs := (hg.block g h.lt hne).trans h
section
variable {B : Nat} {W w w' : World} {gv gr gw : Nat} {cv : Array Value} {ov : Value} {od : List Nat} {k : Int} {t : Bs} {kr : SRow} {o : Option Addr} {c : Nat} {ys : List Vt}
theorem RemI.grow (h : RemI B W gv gr gw cv ov od k t kr o c ys w) (hb : Below w.heap.size w w') : RemI B W gv gr gw cv ov od k t kr o c ys w' :=
  ⟨below_trans h.bl hb, Nat.le_trans h.sz hb.size, h.hv.grow hb, h.hr.grow hb, h.hw.grow hb, h.od.kept (grownBy_below hb none) (by cases ov.ownBlock <;> simp), h.ks.kept (grownBy_below hb none) (by cases kr.v.ownBlock <;> simp),
    h.it.kept (grownBy_below hb none) (by cases (Value.slice o ys.length c).ownBlock <;> simp), fun y hy => (h.ch y hy).grow hb, h.l0, h.l1, h.l2, h.ne, h.nr⟩
/-- what is answered, when all rounds are done -/
theorem RemI.out (h : RemI B W gv gr gw cv ov od k t kr o c ys w) : (Vt.mk k t kr o c ys).Own 25 9 B (fun _ => True) w :=
  .mk k t kr o c ys h.ks (fun _ _ => trivial) h.it (fun _ _ => trivial) (fun _i hi => (h.ch _ (List.getElem_mem hi)).kind (fun _ _ => trivial))
/-- one key more -/
theorem RemI.key (h : RemI B W gv gr gw cv ov od k t kr o c ys w) {x : Bs} {o' : Option Addr} {c' : Nat} (hown : w'.ownsRow B 9 1 (.slice o' (kr.l.length + 1) c') (kr.l.length + 1) (strC kr.l ++ [.string (st x)])) (hg : w.grownBy w' kr.v.ownBlock)
    (hat : (Value.slice o' (kr.l.length + 1) c').ownBlock = kr.v.ownBlock ∨ (Value.slice o' (kr.l.length + 1) c').ownBlock = some w.heap.size) :
    RemI B W gv gr gw cv ov od k t ⟨o', c', kr.l ++ [x]⟩ o c ys (w'.setCell ⟨gw, 2, none⟩ (.slice o' (kr.l.length + 1) c')) := by
  have hne : ∀ g, g < B → some g ≠ kr.v.ownBlock := fun g hgB e => by have := (h.ks.lt g e.symm).1; omega
  have hl : (kr.l ++ [x]).length = kr.l.length + 1 := by rw [List.length_append, List.length_singleton]
  have hkv : (SRow.mk o' c' (kr.l ++ [x])).v = .slice o' (kr.l.length + 1) c' := by unfold SRow.v; simp only; rw [hl]
  refine ⟨?_, ?_, (whole_grownV h.hv hg (hne gv h.l0.2)).far h.ne _, (whole_grownV h.hr hg (hne gr h.l2.2)).far h.nr _, ?_, row_setV (h.od.kept hg ?_) h.l1.2 _, ?_, row_setV (h.it.kept hg ?_) h.l1.2 _, fun y hy => ?_, h.l0, h.l1, h.l2, h.ne, h.nr⟩
  · exact below_put (h.bl.grown hg h.bl.size (fun j ej => by have := (h.ks.lt j ej).1; have := h.l0; omega)) h.l1.1 _ _
  · rw [show (w'.setCell ⟨gw, 2, none⟩ (.slice o' (kr.l.length + 1) c')).heap.size = w'.heap.size by simp [World.setCell]]
    exact Nat.le_trans h.sz hg.size
  · have h1 := (whole_grownV h.hw hg (hne gw h.l1.2)).put 2 (.slice o' (kr.l.length + 1) c')
    rw [hkv]
    exact h1
  · exact own_apartV h.od h.ks (by decide)
  · rw [hkv, hl]
    have h1 := row_setV hown h.l1.2 (i := 2) (.slice o' (kr.l.length + 1) c')
    have e : strC (kr.l ++ [x]) = strC kr.l ++ [.string (st x)] := by unfold strC; rw [List.map_append]; rfl
    rw [e]
    exact h1
  · exact own_apartV h.it h.ks (by decide)
  · refine Vt.Own.set (((h.ch y hy).lt.kept hg (fun g e hs => hs.1.1 e)).kind (fun g hs => ?_)) h.l1.2 _
    refine ⟨fun e => ?_, hs.1.2⟩
    rw [hkv] at e
    rcases hat with hat | hat
    · rw [hat] at e; exact hs.1.1 e
    · rw [hat] at e; have := Option.some.inj e; omega
/-- one item more -/
theorem RemI.item (h : RemI B W gv gr gw cv ov od k t kr o c ys w) {x : Vt} {o' : Option Addr} {c' : Nat} (hx : x.Own 25 9 B (fun g => kr.v.ownBlock ≠ some g ∧ (Value.slice o ys.length c).ownBlock ≠ some g) w)
    (hown : w'.ownsRow B 25 4 (.slice o' (ys.length + 1) c') (ys.length + 1) (vtC ys ++ [.int .i64 x.k, .string (st x.t), x.ks.v, x.row])) (hg : w.grownBy w' (Value.slice o ys.length c).ownBlock)
    (hat : (Value.slice o' (ys.length + 1) c').ownBlock = (Value.slice o ys.length c).ownBlock ∨ (Value.slice o' (ys.length + 1) c').ownBlock = some w.heap.size) :
    RemI B W gv gr gw cv ov od k t kr o' c' (ys ++ [x]) (w'.setCell ⟨gw, 3, none⟩ (.slice o' (ys.length + 1) c')) := by
  have hne : ∀ g, g < B → some g ≠ (Value.slice o ys.length c).ownBlock := fun g hgB e => by have := (h.it.lt g e.symm).1; omega
  have hl : (ys ++ [x]).length = ys.length + 1 := by rw [List.length_append, List.length_singleton]
  refine ⟨?_, ?_, (whole_grownV h.hv hg (hne gv h.l0.2)).far h.ne _, (whole_grownV h.hr hg (hne gr h.l2.2)).far h.nr _, ?_, row_setV (h.od.kept hg ?_) h.l1.2 _, row_setV (h.ks.kept hg ?_) h.l1.2 _, ?_, fun y hy => ?_, h.l0, h.l1, h.l2, h.ne, h.nr⟩
  · exact below_put (h.bl.grown hg h.bl.size (fun j ej => by have := (h.it.lt j ej).1; have := h.l0; omega)) h.l1.1 _ _
  · rw [show (w'.setCell ⟨gw, 3, none⟩ (.slice o' (ys.length + 1) c')).heap.size = w'.heap.size by simp [World.setCell]]
    exact Nat.le_trans h.sz hg.size
  · have h1 := (whole_grownV h.hw hg (hne gw h.l1.2)).put 3 (.slice o' (ys.length + 1) c')
    rw [hl]
    exact h1
  · exact own_apartV h.od h.it (by decide)
  · exact own_apartV h.ks h.it (by decide)
  · rw [hl, vtC_snoc]
    exact row_setV hown h.l1.2 _
  · have key : ∀ y : Vt, y.Own 25 9 B (fun g => kr.v.ownBlock ≠ some g ∧ (Value.slice o ys.length c).ownBlock ≠ some g) w → y.Own 25 9 B (fun g => kr.v.ownBlock ≠ some g ∧ (Value.slice o' (ys ++ [x]).length c').ownBlock ≠ some g) (w'.setCell ⟨gw, 3, none⟩ (.slice o' (ys.length + 1) c')) := fun y hy => by
      refine Vt.Own.set ((hy.lt.kept hg (fun g e hs => hs.1.2 e)).kind (fun g hs => ⟨hs.1.1, fun e => ?_⟩)) h.l1.2 _
      rw [hl] at e
      rcases hat with hat | hat
      · rw [hat] at e; exact hs.1.2 e
      · rw [hat] at e; have := Option.some.inj e; omega
    rcases List.mem_append.1 hy with hy | hy
    · exact key y (h.ch y hy)
    · rw [List.mem_singleton.1 hy]; exact key x hx
end
end Go.Proofs.YtfibmmmbpfnccaaGreatDoor
