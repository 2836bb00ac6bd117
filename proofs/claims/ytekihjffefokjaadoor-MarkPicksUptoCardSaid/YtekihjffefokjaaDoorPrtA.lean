/-
  A ROW OF PARTS AS AN ARGUMENT: read; carried into a world that has grown.
-/
import Derived.Test.YtekihjffefokjaaDoorMkM
import Derived.Test.YtekihjffefokjaaDoorMem
import Derived.Deep.Slices
import Derived.Deep.Strs
import Derived.Laws.IdiomArrays
import Derived.ChangeSame
import Derived.Carry
import Derived.Below
import Derived.ChangeAt
import Derived.OpenShut
namespace Go.Proofs.YtekihjffefokjaaDoor
open Go.ChangeShapes Go.WideShapes Go.ChangeAt Go.RowKit Go.Deep

theorem cell_lt {w : World} {a : Addr} {v : Value} (h : w.cell? a = some v) : a.block < w.heap.size := by
  by_cases hb : a.block < w.heap.size
  · exact hb
  · unfold World.cell? at h
    rw [Array.getElem?_eq_none (by omega)] at h
    cases h
/-- a part lies from a cell on -/
structure PartAt (w : World) (b o : Nat) (x : MPart) : Prop where
  c0 : w.cell? ⟨b, o, none⟩ = some (.bool x.hunk)
  c1 : w.cell? ⟨b, o + 1, none⟩ = some (.string (st x.text))
  c2 : w.cell? ⟨b, o + 2, none⟩ = some (.string (st x.s0))
  c3 : w.cell? ⟨b, o + 3, none⟩ = some (.string (st x.s1))
  c4 : w.cell? ⟨b, o + 4, none⟩ = some (.string (st x.s2))
theorem PartAt.lt {w : World} {b o : Nat} {x : MPart} (h : PartAt w b o x) : b < w.heap.size := cell_lt h.c0
theorem PartAt.grow {w w' : World} {b o : Nat} {x : MPart} (h : PartAt w b o x) (hb : Below w.heap.size w w') : PartAt w' b o x :=
  ⟨(hb.cell (p := ⟨b, o, none⟩) h.lt).trans h.c0, (hb.cell (p := ⟨b, o + 1, none⟩) h.lt).trans h.c1, (hb.cell (p := ⟨b, o + 2, none⟩) h.lt).trans h.c2, (hb.cell (p := ⟨b, o + 3, none⟩) h.lt).trans h.c3, (hb.cell (p := ⟨b, o + 4, none⟩) h.lt).trans h.c4⟩
/-- a row of parts lies behind an address -/
def PartsIn (w : World) (o : Option Addr) (l : List MPart) : Prop := ∀ i (h : i < l.length), ∃ b f, o = some ⟨b, f, none⟩ ∧ PartAt w b (f + i * 5) l[i]
theorem PartsIn.grow {w w' : World} {o : Option Addr} {l : List MPart} (h : PartsIn w o l) (hb : Below w.heap.size w w') : PartsIn w' o l := fun i hi => by
  obtain ⟨b, f, h1, h2⟩ := h i hi
  exact ⟨b, f, h1, h2.grow hb⟩
theorem PartsIn.nil (w : World) (o : Option Addr) : PartsIn w o [] := fun i hi => absurd hi (Nat.not_lt_zero i)
/-- texts as they may come in -/
def Lens (N : Nat) (x : MPart) : Prop := x.text.length ≤ N ∧ x.s0.length ≤ N ∧ x.s1.length ≤ N ∧ x.s2.length ≤ N

section
variable {H : Type} {enc : TypeId × Value → H} {P : Program} {w : World} {base : Nat} {spare : Nat → Bool} {held : Bool}
instance : Inhabited MPart := ⟨⟨false, [], [], [], []⟩⟩
theorem st_of' (s : ByteArray) : st s.data.toList = s := by cases s; simp
theorem trod_part {tP tA tB tS : TypeId} {f0 f1 f2 : Field} {fuel : Nat} {cs : List Value} {x : DataW H × List MemPlace}
    (hP : P.underlying tP = some (.struct #[f0, f1, f2])) (ht : (f0.type = tB ∧ f0.offset = 0) ∧ (f1.type = tS ∧ f1.offset = 1) ∧ f2.type = tA ∧ f2.offset = 2) (hA : P.underlying tA = some (.array 3 tS)) (hB : P.underlying tB = some .bool) (hS : P.underlying tS = some .string)
    (cP : P.cellsOf tP = 5) (cA : P.cellsOf tA = 3) (cB : P.cellsOf tB = 1) (cS : P.cellsOf tS = 1)
    (h : DataW.trod enc P w base spare held fuel tP cs = some x) :
    ∃ y : MPart, cs = [.bool y.hunk, .string (st y.text), .string (st y.s0), .string (st y.s1), .string (st y.s2)] ∧ Lens maxLen y ∧ x.2 = [] := by
  obtain ⟨⟨t0, o0⟩, ⟨t1, o1⟩, t2, o2⟩ := ht
  obtain ⟨y0, y1, y2, n, rfl, hl, h0, h1, h2⟩ := trod_struct3 hP h
  rw [t0, o0] at h0
  rw [t1, o1] at h1
  rw [t2, o2] at h2
  rw [cP] at hl
  match cs, hl with
  | [c0, c1, c2, c3, c4], _ =>
    simp only [cA, cB, cS, List.drop_zero, List.drop_succ_cons, List.take_succ_cons, List.take_zero] at h0 h1 h2
    obtain ⟨b, q0, rfl⟩ := DataW.trod_bool hB h0
    obtain ⟨s, q1, rfl, z1⟩ := DataW.trod_string hS h1
    obtain ⟨u0, u1, u2, m, rfl, k0, k1, k2⟩ := trod_array3 hA cS h2
    obtain ⟨a0, p0, rfl, z2⟩ := DataW.trod_string hS k0
    obtain ⟨a1, p1, rfl, z3⟩ := DataW.trod_string hS k1
    obtain ⟨a2, p2, rfl, z4⟩ := DataW.trod_string hS k2
    simp only [List.cons.injEq, and_true] at q0 q1 p0 p1 p2
    subst q0 q1 p0 p1 p2
    exact ⟨⟨b, s.data.toList, a0.data.toList, a1.data.toList, a2.data.toList⟩, by simp only [st_of'], ⟨z1, z2, z3, z4⟩, rfl⟩
theorem open_parts {tL tP tA tB tS : TypeId} {f0 f1 f2 : Field} {r : Reach} {b0 : Nat} {v : Value} {d : DataW H} {p : List MemPlace} (hL : P.underlying tL = some (.slice tP))
    (hP : P.underlying tP = some (.struct #[f0, f1, f2])) (hF : (f0.type = tB ∧ f0.offset = 0) ∧ (f1.type = tS ∧ f1.offset = 1) ∧ f2.type = tA ∧ f2.offset = 2) (hA : P.underlying tA = some (.array 3 tS)) (hB : P.underlying tB = some .bool) (hS : P.underlying tS = some .string)
    (cP : P.cellsOf tP = 5) (cA : P.cellsOf tA = 3) (cB : P.cellsOf tB = 1) (cS : P.cellsOf tS = 1)
    (hv : Value.okWide P w r b0 tL v) (h : DataW.Trod enc P w base spare held tL v d p) :
    ∃ (o : Option Addr) (cap : Nat) (l : List MPart), v = .slice o l.length cap ∧ l.length ≤ cap ∧ cap ≤ maxLen ∧ PartsIn w o l ∧ ∀ x ∈ l, Lens maxLen x := by
  obtain ⟨a0, len, cap, rfl⟩ := okWide_slice hL hv
  obtain ⟨fuel, hf⟩ := h
  rcases open_slice hL hf with ⟨hcs, hx⟩ | ⟨a, len', cap', m, n, D, Pl, hcs, hb, hl, hm, hmm, hx, hi⟩
  · simp [Value.cells] at hcs
    obtain ⟨rfl, rfl, rfl⟩ := hcs
    exact ⟨none, 0, [], rfl, Nat.le_refl _, Nat.zero_le _, PartsIn.nil _ _, fun x hx => by cases hx⟩
  · simp [Value.cells] at hcs
    obtain ⟨rfl, rfl, rfl⟩ := hcs
    have hlm : len ≤ m := by rw [hmm]; split <;> omega
    have each : ∀ i, i < len → ∃ y : MPart, Lens maxLen y ∧ ∀ j, j < 5 → w.cell? (a.add (i * 5 + j)) = [Value.bool y.hunk, .string (st y.text), .string (st y.s0), .string (st y.s1), .string (st y.s2)][j]? := fun i hil => by
      obtain ⟨cs, hc, ht⟩ := hi i (by omega)
      obtain ⟨y, rfl, hy, _⟩ := trod_part hP hF hA hB hS cP cA cB cS ht
      rw [cP] at hc
      obtain ⟨_, _, hat⟩ := World.cells?_some hc
      exact ⟨y, hy, fun j hj => by rw [← add_add]; exact hat j hj⟩
    obtain ⟨X, hX⟩ := choose_lt each
    refine ⟨some a, cap, (List.range len).map X, by rw [List.length_map, List.length_range], by rw [List.length_map, List.length_range]; exact hl, hm, ?_, ?_⟩
    · intro i hil
      rw [List.length_map, List.length_range] at hil
      obtain ⟨b, f, spot⟩ := a
      have hspot : spot = none := by
        have := (hX 0 (by omega)).2 0 (by omega)
        simpa [Addr.add] using World.cell?_spot this
      subst hspot
      have hc := (hX i hil).2
      rw [List.getElem_map, List.getElem_range]
      refine ⟨b, f, rfl, ?_, ?_, ?_, ?_, ?_⟩
      · have := hc 0 (by omega); rw [add_plain] at this; exact this
      · have := hc 1 (by omega); rw [add_plain] at this; exact this
      · have := hc 2 (by omega); rw [add_plain] at this; exact this
      · have := hc 3 (by omega); rw [add_plain] at this; exact this
      · have := hc 4 (by omega); rw [add_plain] at this; exact this
    · intro x hx
      obtain ⟨i, hi', rfl⟩ := List.mem_map.1 hx
      exact (hX i (List.mem_range.1 hi')).1
theorem open_part {tP tA tB tS : TypeId} {f0 f1 f2 : Field} {r : Reach} {b0 : Nat} {v : Value} {d : DataW H} {p : List MemPlace}
    (hP : P.underlying tP = some (.struct #[f0, f1, f2])) (hF : (f0.type = tB ∧ f0.offset = 0) ∧ (f1.type = tS ∧ f1.offset = 1) ∧ f2.type = tA ∧ f2.offset = 2) (hA : P.underlying tA = some (.array 3 tS)) (hB : P.underlying tB = some .bool) (hS : P.underlying tS = some .string)
    (cP : P.cellsOf tP = 5) (cA : P.cellsOf tA = 3) (cB : P.cellsOf tB = 1) (cS : P.cellsOf tS = 1)
    (hv : Value.okWide P w r b0 tP v) (h : DataW.Trod enc P w base spare held tP v d p) :
    ∃ y : MPart, v = .agg #[.bool y.hunk, .string (st y.text), .string (st y.s0), .string (st y.s1), .string (st y.s2)] ∧ Lens maxLen y := by
  obtain ⟨cs, rfl, hsz⟩ := okWide_struct hP hv
  obtain ⟨fuel, hf⟩ := h
  obtain ⟨y, hy, hl, _⟩ := trod_part hP hF hA hB hS cP cA cB cS hf
  refine ⟨y, ?_, hl⟩
  obtain ⟨l⟩ := cs
  simp only [Value.cells] at hy
  rw [hy]
/-- a row of numbers lies behind an address -/
def IntsIn (w : World) (o : Option Addr) (l : List Int) : Prop := ∀ i (h : i < l.length), ∃ b f, o = some ⟨b, f, none⟩ ∧ w.cell? ⟨b, f + i, none⟩ = some (.int .i64 l[i])
theorem IntsIn.grow {w w' : World} {o : Option Addr} {l : List Int} (h : IntsIn w o l) (hb : Below w.heap.size w w') : IntsIn w' o l := fun i hi => by
  obtain ⟨b, f, h1, h2⟩ := h i hi
  exact ⟨b, f, h1, (hb.cell (p := ⟨b, f + i, none⟩) (cell_lt h2)).trans h2⟩
def I64 (n : Int) : Prop := -9223372036854775808 ≤ n ∧ n ≤ 9223372036854775807
theorem open_introw {tL tE : TypeId} {r : Reach} {b0 : Nat} {v : Value} {d : DataW H} {p : List MemPlace} (hL : P.underlying tL = some (.slice tE)) (hE : P.underlying tE = some (.int .i64)) (cE : P.cellsOf tE = 1)
    (hv : Value.okWide P w r b0 tL v) (h : DataW.Trod enc P w base spare held tL v d p) :
    ∃ (o : Option Addr) (cap : Nat) (l : List Int), v = .slice o l.length cap ∧ l.length ≤ cap ∧ cap ≤ maxLen ∧ IntsIn w o l ∧ ∀ x ∈ l, I64 x := by
  obtain ⟨a0, len, cap, rfl⟩ := okWide_slice hL hv
  obtain ⟨fuel, hf⟩ := h
  rcases open_ints hL hE cE hf with ⟨hcs, hx⟩ | ⟨a, len', cap', zs, hcs, hb, hl, hm, hz, hx, hcell, hwf⟩
  · simp [Value.cells] at hcs
    obtain ⟨rfl, rfl, rfl⟩ := hcs
    exact ⟨none, 0, [], rfl, Nat.le_refl _, Nat.zero_le _, fun i hi => absurd hi (Nat.not_lt_zero i), fun x hx => by cases hx⟩
  · simp [Value.cells] at hcs
    obtain ⟨rfl, rfl, rfl⟩ := hcs
    have hlz : len ≤ zs.length := by rw [hz]; split <;> omega
    have htl : (zs.take len).length = len := by rw [List.length_take]; omega
    refine ⟨some a, cap, zs.take len, by rw [htl], by rw [htl]; exact hl, hm, ?_, ?_⟩
    · intro i hil
      rw [htl] at hil
      obtain ⟨b, f, spot⟩ := a
      have hspot : spot = none := by
        have := hcell 0 (by omega)
        simpa [Addr.add] using World.cell?_spot this
      subst hspot
      have hc := hcell i (by omega)
      rw [add_plain] at hc
      refine ⟨b, f, rfl, hc.trans ?_⟩
      rw [List.getElem_take, List.getD_eq_getElem?_getD, List.getElem?_eq_getElem (by omega)]
      rfl
    · intro x hx
      have := hwf x (List.mem_of_mem_take hx)
      exact bounds_i64 this
end
end Go.Proofs.YtekihjffefokjaaDoor
