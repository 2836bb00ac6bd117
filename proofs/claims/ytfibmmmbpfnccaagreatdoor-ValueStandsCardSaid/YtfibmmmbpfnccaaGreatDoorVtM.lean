/-
  TREES IN MEMORY: read; of a call's own.
-/
import Derived.Test.YtfibmmmbpfnccaaGreatDoorVlA
import Derived.Test.YtfibmmmbpfnccaaGreatDoorStrA
import Derived.Laws.OwnMore
namespace Go.Proofs.YtfibmmmbpfnccaaGreatDoor
open Go.RowKit

/-- a tree that lies in memory -/
inductive Vt where
  | mk (k : Int) (t : Bs) (ks : SRow) (o : Option Addr) (c : Nat) (is : List Vt)
namespace Vt
def k : Vt → Int | .mk k _ _ _ _ _ => k
def t : Vt → Bs | .mk _ t _ _ _ _ => t
def ks : Vt → SRow | .mk _ _ ks _ _ _ => ks
def o : Vt → Option Addr | .mk _ _ _ o _ _ => o
def c : Vt → Nat | .mk _ _ _ _ c _ => c
def is : Vt → List Vt | .mk _ _ _ _ _ is => is
theorem ind {P : Vt → Prop} (h : ∀ k t ks o c is, (∀ x ∈ is, P x) → P (.mk k t ks o c is)) : ∀ v, P v := fun v =>
  Vt.rec (motive_1 := P) (motive_2 := fun l => ∀ x ∈ l, P x) (fun k t ks o c is ih => h k t ks o c is ih) (fun _ hx => by cases hx)
    (fun v l hv hl x hx => by
      rcases List.mem_cons.1 hx with rfl | hx
      · exact hv
      · exact hl x hx) v
instance : Inhabited Vt := ⟨.mk 0 [] ⟨none, 0, []⟩ none 0 []⟩
/-- its row of items, as a value -/
def row (x : Vt) : Value := .slice x.o x.is.length x.c
def v (x : Vt) : Value := .agg #[.int .i64 x.k, .string (st x.t), x.ks.v, x.row]
theorem v_mk' (k : Int) (t : Bs) (ko : Option Addr) (kc : Nat) (kl : List Bs) (o : Option Addr) (c : Nat) (is : List Vt) : (Vt.mk k t ⟨ko, kc, kl⟩ o c is).v = .agg #[.int .i64 k, .string (st t), .slice ko kl.length kc, .slice o is.length c] := rfl
theorem v_mk (k : Int) (t : Bs) (ks : SRow) (o : Option Addr) (c : Nat) (is : List Vt) : (Vt.mk k t ks o c is).v = .agg #[.int .i64 k, .string (st t), ks.v, .slice o is.length c] := rfl
end Vt
mutual
/-- the tree, without its memory -/
def Vt.m : Vt → Vl
  | .mk k t ks _ _ is => .mk k t ks.l (Vt.ms is)
def Vt.ms : List Vt → List Vl
  | [] => []
  | x :: l => x.m :: Vt.ms l
end
theorem Vt.ms_map : ∀ l : List Vt, Vt.ms l = l.map Vt.m
  | [] => rfl
  | x :: l => by simp only [Vt.ms, List.map_cons, Vt.ms_map l]
theorem Vt.m_mk (k : Int) (t : Bs) (ks : SRow) (o : Option Addr) (c : Nat) (is : List Vt) : (Vt.mk k t ks o c is).m = .mk k t ks.l (is.map Vt.m) := by simp only [Vt.m, Vt.ms_map]
/-- an item's cells -/
structure ItemAt (w : World) (b p : Nat) (x : Vt) : Prop where
  c0 : w.cell? ⟨b, p, none⟩ = some (.int .i64 x.k)
  c1 : w.cell? ⟨b, p + 1, none⟩ = some (.string (st x.t))
  c2 : w.cell? ⟨b, p + 2, none⟩ = some x.ks.v
  c3 : w.cell? ⟨b, p + 3, none⟩ = some x.row
/-- a tree that can be read -/
inductive Vt.Ok (w : World) : Vt → Prop
  | mk (k : Int) (t : Bs) (ks : SRow) (o : Option Addr) (c : Nat) (is : List Vt) (hk : -9223372036854775808 ≤ k ∧ k ≤ 9223372036854775807) (ht : t.length ≤ maxLen) (hks : ks.ok w) (hkt : ∀ x ∈ ks.l, x.length ≤ maxLen)
      (hl : is.length ≤ c) (hc : c ≤ maxLen) (hat : ∀ i (h : i < is.length), ∃ b f, o = some ⟨b, f, none⟩ ∧ ItemAt w b (f + i * 4) is[i]) (hi : ∀ i (h : i < is.length), Vt.Ok w is[i]) : Vt.Ok w (.mk k t ks o c is)
section
variable {w w' : World} {k : Int} {t : Bs} {ks : SRow} {o : Option Addr} {c : Nat} {is : List Vt} {x : Vt}
theorem Vt.Ok.hk (h : Vt.Ok w (.mk k t ks o c is)) : -9223372036854775808 ≤ k ∧ k ≤ 9223372036854775807 := by cases h; assumption
theorem Vt.Ok.ht (h : Vt.Ok w (.mk k t ks o c is)) : t.length ≤ maxLen := by cases h; assumption
theorem Vt.Ok.hks (h : Vt.Ok w (.mk k t ks o c is)) : ks.ok w := by cases h; assumption
theorem Vt.Ok.hkt (h : Vt.Ok w (.mk k t ks o c is)) : ∀ x ∈ ks.l, x.length ≤ maxLen := by cases h; assumption
theorem Vt.Ok.hl (h : Vt.Ok w (.mk k t ks o c is)) : is.length ≤ c := by cases h; assumption
theorem Vt.Ok.hc (h : Vt.Ok w (.mk k t ks o c is)) : c ≤ maxLen := by cases h; assumption
theorem Vt.Ok.at_ (h : Vt.Ok w (.mk k t ks o c is)) (i : Nat) (hi : i < is.length) : ∃ b f, o = some ⟨b, f, none⟩ ∧ ItemAt w b (f + i * 4) is[i] := by cases h with | mk _ _ _ _ _ _ _ _ _ _ _ _ hat _ => exact hat i hi
theorem Vt.Ok.item (h : Vt.Ok w (.mk k t ks o c is)) (i : Nat) (hi : i < is.length) : Vt.Ok w is[i] := by cases h with | mk _ _ _ _ _ _ _ _ _ _ _ _ _ hi' => exact hi' i hi
theorem Vt.Ok.mem (h : Vt.Ok w (.mk k t ks o c is)) : ∀ x ∈ is, Vt.Ok w x := fun x hx => by
  obtain ⟨i, hi, rfl⟩ := List.mem_iff_getElem.1 hx
  exact h.item i hi
theorem ItemAt.grow {b p : Nat} (h : ItemAt w b p x) (hb : Below w.heap.size w w') : ItemAt w' b p x :=
  ⟨(hb.cell (p := ⟨b, p, none⟩) (cell_blk h.c0)).trans h.c0, (hb.cell (p := ⟨b, p + 1, none⟩) (cell_blk h.c1)).trans h.c1, (hb.cell (p := ⟨b, p + 2, none⟩) (cell_blk h.c2)).trans h.c2, (hb.cell (p := ⟨b, p + 3, none⟩) (cell_blk h.c3)).trans h.c3⟩
theorem Vt.Ok.grow (h : Vt.Ok w x) (hb : Below w.heap.size w w') : Vt.Ok w' x := by
  induction h with
  | mk k t ks o c is hk ht hks hkt hl hc hat _ ih =>
    refine .mk k t ks o c is hk ht (hks.grow hb) hkt hl hc (fun i hi => ?_) ih
    obtain ⟨b, f, h1, h2⟩ := hat i hi
    exact ⟨b, f, h1, h2.grow hb⟩
end
/-! ### trees of a call's own -/
def vtC (l : List Vt) : List Value := l.flatMap fun x => [.int .i64 x.k, .string (st x.t), x.ks.v, x.row]
theorem vtC_snoc (l : List Vt) (x : Vt) : vtC (l ++ [x]) = vtC l ++ [.int .i64 x.k, .string (st x.t), x.ks.v, x.row] := by unfold vtC; simp
theorem vtC_at (l : List Vt) : ∀ (i : Nat) (h : i < l.length), (vtC l)[i * 4]? = some (.int .i64 l[i].k) ∧ (vtC l)[i * 4 + 1]? = some (.string (st l[i].t)) ∧ (vtC l)[i * 4 + 2]? = some l[i].ks.v ∧ (vtC l)[i * 4 + 3]? = some l[i].row := by
  induction l with
  | nil => intro i h; exact absurd h (by simp)
  | cons x l ih =>
    intro i h
    unfold vtC at ih ⊢
    rw [List.flatMap_cons]
    cases i with
    | zero => exact ⟨rfl, rfl, rfl, rfl⟩
    | succ i =>
      have := ih i (by simpa using h)
      rw [show (i + 1) * 4 = i * 4 + 1 + 1 + 1 + 1 by omega]
      simpa using this
theorem vtC_one (l : List Vt) : ∀ u ∈ vtC l, u.oneCell' = true := by
  intro u hu
  unfold vtC at hu
  obtain ⟨x, _, hx⟩ := List.mem_flatMap.1 hu
  simp only [List.mem_cons, List.not_mem_nil, or_false] at hx
  rcases hx with rfl | rfl | rfl | rfl <;> rfl
/-- texts as cells -/
def strC (l : List Bs) : List Value := l.map fun x => .string (st x)
/-- a tree whose rows are the call's own, in blocks of a kind -/
inductive Vt.Own (tV tS : TypeId) (B : Nat) (S : Nat → Prop) (w : World) : Vt → Prop
  | mk (k : Int) (t : Bs) (ks : SRow) (o : Option Addr) (c : Nat) (is : List Vt) (hks : w.ownsRow B tS 1 ks.v ks.l.length (strC ks.l)) (hkb : ∀ g, ks.v.ownBlock = some g → S g)
      (hrow : w.ownsRow B tV 4 (.slice o is.length c) is.length (vtC is)) (hrb : ∀ g, (Value.slice o is.length c).ownBlock = some g → S g)
      (hi : ∀ i (h : i < is.length), Vt.Own tV tS B S w is[i]) : Vt.Own tV tS B S w (.mk k t ks o c is)
theorem Vt.Own.kept {tV tS : TypeId} {B : Nat} {S : Nat → Prop} {w w' : World} {x : Vt} {row : Option Nat} (h : Vt.Own tV tS B S w x) (hg : w.grownBy w' row) (hr : ∀ g, row = some g → ¬ S g) : Vt.Own tV tS B S w' x := by
  induction h with
  | mk k t ks o c is hks hkb hrow hrb _ ih =>
    refine .mk k t ks o c is (hks.kept hg ?_) hkb (hrow.kept hg ?_) hrb ih
    · cases hv : ks.v.ownBlock with
      | none => exact .inl rfl
      | some g => exact .inr (fun e => hr g e.symm (hkb g hv))
    · cases hv : (Value.slice o is.length c).ownBlock with
      | none => exact .inl rfl
      | some g => exact .inr (fun e => hr g e.symm (hrb g hv))
theorem Vt.Own.kind {tV tS : TypeId} {B : Nat} {S S' : Nat → Prop} {w : World} {x : Vt} (h : Vt.Own tV tS B S w x) (hs : ∀ g, S g → S' g) : Vt.Own tV tS B S' w x := by
  induction h with
  | mk k t ks o c is hks hkb hrow hrb _ ih => exact .mk k t ks o c is hks (fun g hg => hs g (hkb g hg)) hrow (fun g hg => hs g (hrb g hg)) ih
theorem grownBy_below {w w' : World} (hb : Below w.heap.size w w') (row : Option Nat) : w.grownBy w' row := ⟨hb.os, hb.tape, hb.output, hb.size, fun k hk _ => hb.block k hk⟩
theorem Vt.Own.grow {tV tS : TypeId} {B : Nat} {S : Nat → Prop} {w w' : World} {x : Vt} (h : Vt.Own tV tS B S w x) (hb : Below w.heap.size w w') : Vt.Own tV tS B S w' x :=
  h.kept (grownBy_below hb none) (fun g hg => by cases hg)
theorem own_cap {w : World} {B e size n c : Nat} {o : Option Addr} {xs : List Value} (h : w.ownsRow B e size (.slice o n c) n xs) : n ≤ c ∧ c ≤ maxLen := by
  rcases h.2 with ⟨h1, h0⟩ | ⟨g, cap, cur, hv, _, _, hc, hm, _⟩
  · injection h1 with _ _ e; subst e; exact ⟨by omega, Nat.zero_le _⟩
  · injection hv with _ _ e; subst e; exact ⟨hc, hm⟩
theorem own_keys {w : World} {B e : Nat} {ks : SRow} (h : w.ownsRow B e 1 ks.v ks.l.length (strC ks.l)) : ks.ok w := by
  obtain ⟨o, c, l⟩ := ks
  unfold SRow.v at h
  simp only at h
  obtain ⟨h1, h2⟩ := own_cap h
  refine ⟨h1, h2, fun i hi => ?_⟩
  simp only at hi ⊢
  rcases h.2 with ⟨h1, h0⟩ | ⟨g, cap, cur, hv, _, _, _, _, _⟩
  · omega
  · injection hv with ho
    have hc := h.cells (g := g) (by rw [ho]; rfl) i (.string (st l[i])) (by unfold strC; simp [hi])
    rw [Addr.add_lit, Nat.zero_add] at hc
    exact ⟨g, 0, ho, by rw [Nat.zero_add]; exact hc⟩
/-- what memory can hold -/
structure Vl.Rng (v : Vl) : Prop where
  hk : -9223372036854775808 ≤ v.k ∧ v.k ≤ 9223372036854775807
  ht : v.t.length ≤ maxLen
  hkt : ∀ x ∈ v.ks, x.length ≤ maxLen
theorem Vt.Ok.rng {w : World} {x : Vt} (h : Vt.Ok w x) : x.m.All Vl.Rng := by
  induction h with
  | mk k t ks o c is hk ht hks hkt hl hc hat _ ih =>
    rw [Vt.m_mk]
    refine .mk _ _ _ _ ⟨hk, ht, hkt⟩ (fun y hy => ?_)
    obtain ⟨z, hz, rfl⟩ := List.mem_map.1 hy
    obtain ⟨i, hi, rfl⟩ := List.mem_iff_getElem.1 hz
    exact ih i hi
theorem Vt.Own.ok {tV tS : TypeId} {B : Nat} {S : Nat → Prop} {w : World} {x : Vt} (h : Vt.Own tV tS B S w x) (hr : x.m.All Vl.Rng) : Vt.Ok w x := by
  induction h with
  | mk k t ks o c is hks hkb hrow hrb _ ih =>
    rw [Vt.m_mk] at hr
    cases hr with
    | mk _ _ _ _ hr hri =>
      obtain ⟨h1, h2⟩ := own_cap hrow
      refine .mk k t ks o c is hr.hk hr.ht (own_keys hks) hr.hkt h1 h2 (fun i hi => ?_) (fun i hi => ih i hi (hri _ (List.mem_map.2 ⟨_, List.getElem_mem hi, rfl⟩)))
      rcases hrow.2 with ⟨h1, h0⟩ | ⟨g, cap, cur, hv, _, _, _, _, _⟩
      · omega
      · injection hv with ho
        obtain ⟨q0, q1, q2, q3⟩ := vtC_at is i hi
        have hc0 := hrow.cells (g := g) (by rw [ho]; rfl) (i * 4) _ q0
        have hc1 := hrow.cells (g := g) (by rw [ho]; rfl) (i * 4 + 1) _ q1
        have hc2 := hrow.cells (g := g) (by rw [ho]; rfl) (i * 4 + 2) _ q2
        have hc3 := hrow.cells (g := g) (by rw [ho]; rfl) (i * 4 + 3) _ q3
        rw [Addr.add_lit, Nat.zero_add] at hc0 hc1 hc2 hc3
        exact ⟨g, 0, ho, ⟨by rw [Nat.zero_add]; exact hc0, by rw [Nat.zero_add]; exact hc1, by rw [Nat.zero_add]; exact hc2, by rw [Nat.zero_add]; exact hc3⟩⟩
end Go.Proofs.YtfibmmmbpfnccaaGreatDoor
