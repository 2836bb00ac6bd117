/-
  A ROW OF RULES AS AN ARGUMENT: read.
-/
import Derived.Test.YtmadgdafgkleiaaGreatDoorRua
import Derived.Deep.Slices
import Derived.Deep.Strs
namespace Go.Proofs.YtmadgdafgkleiaaGreatDoor
open Go.ChangeShapes Go.WideShapes Go.ChangeAt Go.RowKit Go.Deep
section
variable {H : Type} {enc : TypeId × Value → H} {P : Program} {w : World} {base : Nat} {spare : Nat → Bool} {held : Bool}
theorem strrow_of {tL tE : TypeId} {fuel : Nat} {c : Value} {x : DataW H × List MemPlace} (hL : P.underlying tL = some (.slice tE)) (hE : P.underlying tE = some .string) (cE : P.cellsOf tE = 1)
    (hf : DataW.trod enc P w base spare held fuel tL [c] = some x) : ∃ r : SRow, c = r.v ∧ r.ok w ∧ Room r.l := by
  rcases open_strings hL hE cE hf with ⟨hcs, hx⟩ | ⟨a, len', cap', zs, hcs, hb, hl, hm, hz, hx, hcell, hwf⟩
  · simp only [List.cons.injEq, and_true] at hcs
    exact ⟨⟨none, 0, []⟩, hcs, ⟨Nat.le_refl _, Nat.zero_le _, StrsIn.nil _ _⟩, fun x hx => by cases hx⟩
  · simp only [List.cons.injEq, and_true] at hcs
    have hlz : len' ≤ zs.length := by rw [hz]; split <;> omega
    have htl : ((zs.take len').map fun s => s.data.toList).length = len' := by rw [List.length_map, List.length_take]; omega
    refine ⟨⟨some a, cap', (zs.take len').map fun s => s.data.toList⟩, by unfold SRow.v; rw [htl]; exact hcs, ⟨by simp only; rw [htl]; exact hl, hm, ?_⟩, ?_⟩
    · intro i hil
      simp only at hil
      rw [htl] at hil
      obtain ⟨b, f, spot⟩ := a
      have hspot : spot = none := by
        have := hcell 0 (by omega)
        simpa [Addr.add] using World.cell?_spot this
      subst hspot
      have hc := hcell i (by omega)
      rw [add_plain] at hc
      refine ⟨b, f, rfl, hc.trans ?_⟩
      rw [List.getElem_map, List.getElem_take, st_of, List.getD_eq_getElem?_getD, List.getElem?_eq_getElem (by omega)]
      rfl
    · intro x hx
      obtain ⟨s, hs, rfl⟩ := List.mem_map.1 hx
      exact hwf s (List.mem_of_mem_take hs)
theorem trod_rule {tR tL tS : TypeId} {f0 f1 : Field} {fuel : Nat} {cs : List Value} {x : DataW H × List MemPlace}
    (hR : P.underlying tR = some (.struct #[f0, f1])) (ht : (f0.type = tL ∧ f0.offset = 0) ∧ f1.type = tS ∧ f1.offset = 1) (hL : P.underlying tL = some (.slice tS)) (hS : P.underlying tS = some .string)
    (cR : P.cellsOf tR = 2) (cL : P.cellsOf tL = 1) (cS : P.cellsOf tS = 1)
    (h : DataW.trod enc P w base spare held fuel tR cs = some x) :
    ∃ y : RU, cs = [y.p.v, .string (st y.k)] ∧ y.p.ok w ∧ y.k.length ≤ maxLen ∧ Room y.p.l := by
  obtain ⟨⟨t0, o0⟩, t1, o1⟩ := ht
  obtain ⟨y0, y1, n, rfl, hl, h0, h1⟩ := trod_struct2 hR h
  rw [t0, o0] at h0
  rw [t1, o1] at h1
  rw [cR] at hl
  match cs, hl with
  | [c0, c1], _ =>
    simp only [cL, cS, List.drop_zero, List.drop_succ_cons, List.take_succ_cons, List.take_zero] at h0 h1
    obtain ⟨r, rfl, hr, hm⟩ := strrow_of hL hS cS h0
    obtain ⟨s, q1, rfl, z1⟩ := DataW.trod_string hS h1
    simp only [List.cons.injEq, and_true] at q1
    subst q1
    exact ⟨⟨r, s.data.toList⟩, by simp only [st_of], hr, z1, hm⟩
instance : Inhabited RU := ⟨⟨⟨none, 0, []⟩, []⟩⟩
theorem open_rulerow {tA tR tL tS : TypeId} {f0 f1 : Field} {r : Reach} {b0 : Nat} {v : Value} {d : DataW H} {p : List MemPlace} (hA : P.underlying tA = some (.slice tR))
    (hR : P.underlying tR = some (.struct #[f0, f1])) (ht : (f0.type = tL ∧ f0.offset = 0) ∧ f1.type = tS ∧ f1.offset = 1) (hL : P.underlying tL = some (.slice tS)) (hS : P.underlying tS = some .string)
    (cR : P.cellsOf tR = 2) (cL : P.cellsOf tL = 1) (cS : P.cellsOf tS = 1)
    (hv : Value.okWide P w r b0 tA v) (h : DataW.Trod enc P w base spare held tA v d p) :
    ∃ (o : Option Addr) (cap : Nat) (l : List RU), v = .slice o l.length cap ∧ RulesOk w o cap l := by
  obtain ⟨a0, len, cap, rfl⟩ := okWide_slice hA hv
  obtain ⟨fuel, hf⟩ := h
  rcases open_slice hA hf with ⟨hcs, hx⟩ | ⟨a, len', cap', m, n, D, Pl, hcs, hb, hl, hm, hmm, hx, hi⟩
  · simp [Value.cells] at hcs
    obtain ⟨rfl, rfl, rfl⟩ := hcs
    exact ⟨none, 0, [], rfl, ⟨Nat.le_refl _, Nat.zero_le _, fun i hi => absurd hi (Nat.not_lt_zero i), fun r hr => by cases hr⟩⟩
  · simp [Value.cells] at hcs
    obtain ⟨rfl, rfl, rfl⟩ := hcs
    have hlm : len ≤ m := by rw [hmm]; split <;> omega
    have each : ∀ i, i < len → ∃ y : RU, (y.p.ok w ∧ y.k.length ≤ maxLen ∧ Room y.p.l) ∧ ∀ j, j < 2 → w.cell? (a.add (i * 2 + j)) = [y.p.v, Value.string (st y.k)][j]? := fun i hil => by
      obtain ⟨cs, hc, ht2⟩ := hi i (by omega)
      obtain ⟨y, rfl, hy⟩ := trod_rule hR ht hL hS cR cL cS ht2
      rw [cR] at hc
      obtain ⟨_, _, hat⟩ := World.cells?_some hc
      exact ⟨y, hy, fun j hj => by rw [← add_add]; exact hat j hj⟩
    obtain ⟨X, hX⟩ := choose_lt each
    refine ⟨some a, cap, (List.range len).map X, by rw [List.length_map, List.length_range], ⟨by rw [List.length_map, List.length_range]; exact hl, hm, ?_, ?_⟩⟩
    · intro i hil
      rw [List.length_map, List.length_range] at hil
      obtain ⟨b, f, spot⟩ := a
      have hspot : spot = none := by
        have := (hX 0 (by omega)).2 0 (by omega)
        simpa [Addr.add] using World.cell?_spot this
      subst hspot
      have hc := (hX i hil).2
      rw [List.getElem_map, List.getElem_range]
      refine ⟨b, f, rfl, ?_, ?_, (hX i hil).1.1⟩
      · have := hc 0 (by omega); rw [add_plain] at this; exact this
      · have := hc 1 (by omega); rw [add_plain] at this; exact this
    · intro x hx
      obtain ⟨i, hi', rfl⟩ := List.mem_map.1 hx
      exact (hX i (List.mem_range.1 hi')).1.2
end
end Go.Proofs.YtmadgdafgkleiaaGreatDoor

