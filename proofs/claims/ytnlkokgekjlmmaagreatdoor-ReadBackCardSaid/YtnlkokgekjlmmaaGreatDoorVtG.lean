/-
  A TREE AS AN ARGUMENT: read.
-/
import Derived.Test.YtnlkokgekjlmmaaGreatDoorBas
import Derived.Deep.Slices
import Derived.Deep.Strs
import Derived.ChangeArms
import Derived.OpenShut
namespace Go.Proofs.YtnlkokgekjlmmaaGreatDoor
open Go.ChangeShapes Go.WideShapes Go.ChangeAt Go.RowKit Go.Deep
section
variable {H : Type} {enc : TypeId × Value → H} {P : Program} {w : World} {base : Nat} {spare : Nat → Bool} {held : Bool}
theorem strrow_ofV {tL tE : TypeId} {fuel : Nat} {c : Value} {x : DataW H × List MemPlace} (hL : P.underlying tL = some (.slice tE)) (hE : P.underlying tE = some .string) (cE : P.cellsOf tE = 1)
    (hf : DataW.trod enc P w base spare held fuel tL [c] = some x) : ∃ r : SRow, c = r.v ∧ r.ok w ∧ ∀ y ∈ r.l, y.length ≤ maxLen := by
  rcases open_strings hL hE cE hf with ⟨hcs, hx⟩ | ⟨a, len', cap', zs, hcs, hb, hl, hm, hz, hx, hcell, hwf⟩
  · simp only [List.cons.injEq, and_true] at hcs
    exact ⟨⟨none, 0, []⟩, hcs, ⟨Nat.le_refl _, Nat.zero_le _, StrsIn.nil _ _⟩, fun x hx => by cases hx⟩
  · simp only [List.cons.injEq, and_true] at hcs
    have hlz : len' ≤ zs.length := by rw [hz]; split <;> omega
    have htl : ((zs.take len').map fun s => s.data.toList).length = len' := by rw [List.length_map, List.length_take]; omega
    refine ⟨⟨some a, cap', (zs.take len').map fun s => s.data.toList⟩, by unfold SRow.v; rw [htl]; exact hcs, ⟨by simp only; rw [htl]; exact hl, hm, ?_⟩, ?_⟩
    · intro i hil
      simp only at hil
      rw [htl] at hil
      obtain ⟨b, f, spot⟩ := a
      have hspot : spot = none := by
        have := hcell 0 (by omega)
        simpa [Addr.add] using World.cell?_spot this
      subst hspot
      have hc := hcell i (by omega)
      rw [add_plain] at hc
      refine ⟨b, f, rfl, hc.trans ?_⟩
      rw [List.getElem_map, List.getElem_take, st_of, List.getD_eq_getElem?_getD, List.getElem?_eq_getElem (by omega)]
      rfl
    · intro x hx
      obtain ⟨s, hs, rfl⟩ := List.mem_map.1 hx
      exact hwf s (List.mem_of_mem_take hs)
theorem i64_wf {n : Int} (h : (Lit.int .i64 n).wf = true) : -9223372036854775808 ≤ n ∧ n ≤ 9223372036854775807 := by
  have h1 : IntKind.i64.min = -9223372036854775808 := by decide
  have h2 : IntKind.i64.max = 9223372036854775807 := by decide
  simp [Lit.wf, h1, h2] at h
  exact h
theorem trod_tree {tV tI tS tL tR : TypeId} {f0 f1 f2 f3 : Field}
    (hV : P.underlying tV = some (.struct #[f0, f1, f2, f3])) (ht : (f0.type = tI ∧ f0.offset = 0) ∧ (f1.type = tS ∧ f1.offset = 1) ∧ (f2.type = tL ∧ f2.offset = 2) ∧ f3.type = tR ∧ f3.offset = 3)
    (hI : P.underlying tI = some (.int .i64)) (hS : P.underlying tS = some .string) (hL : P.underlying tL = some (.slice tS)) (hR : P.underlying tR = some (.slice tV))
    (cV : P.cellsOf tV = 4) (cI : P.cellsOf tI = 1) (cS : P.cellsOf tS = 1) (cL : P.cellsOf tL = 1) (cR : P.cellsOf tR = 1) :
    ∀ (N fuel : Nat), fuel ≤ N → ∀ (cs : List Value) (x : DataW H × List MemPlace), DataW.trod enc P w base spare held fuel tV cs = some x → ∃ y : Vt, cs = [.int .i64 y.k, .string (st y.t), y.ks.v, y.row] ∧ y.Ok w := by
  obtain ⟨⟨t0, o0⟩, ⟨t1, o1⟩, ⟨t2, o2⟩, t3, o3⟩ := ht
  intro N
  induction N with
  | zero =>
    intro fuel hN cs x h
    obtain rfl : fuel = 0 := by omega
    obtain ⟨xs, n, hfn, _⟩ := DataW.trod_struct hV h
    omega
  | succ N ih =>
    intro fuel hN cs x h
    obtain ⟨xs, n, hfn, _, hl, hlen, hf⟩ := DataW.trod_struct hV h
    have h0 := hf 0 f0 rfl
    have h1 := hf 1 f1 rfl
    have h2 := hf 2 f2 rfl
    have h3 := hf 3 f3 rfl
    rw [cV] at hl
    match cs, hl with
    | [a, b, c, d], _ =>
    match xs, hlen with
    | [y0, y1, y2, y3], _ =>
      rw [t0, o0] at h0
      rw [t1, o1] at h1
      rw [t2, o2] at h2
      rw [t3, o3] at h3
      simp only [cI, cS, cL, cR, List.drop_zero, List.drop_succ_cons, List.take_succ_cons, List.take_zero, List.getElem?_cons_zero, List.getElem?_cons_succ] at h0 h1 h2 h3
      obtain ⟨k, q0, z0⟩ := DataW.trod_int hI h0
      obtain ⟨s, q1, z1⟩ := DataW.trod_string hS h1
      simp only [List.cons.injEq, and_true] at q0 q1
      subst q0 q1
      obtain ⟨r, rfl, hr, hrk⟩ := strrow_ofV hL hS cS h2
      rcases DataW.trod_slice hR h3 with ⟨hd, _⟩ | ⟨ad, len, cap, elems, rest, m, hnm, hd, _, hb, hlc, hcm, hel, helem, _⟩
      · simp only [List.cons.injEq, and_true] at hd
        subst hd
        exact ⟨.mk k s.data.toList r none 0 [], by rw [show (Vt.mk k s.data.toList r none 0 []).t = s.data.toList from rfl, st_of]; rfl, .mk _ _ _ _ _ _ (i64_wf z0.2) z1.2 hr hrk (Nat.le_refl _) (Nat.zero_le _) (fun i hi => absurd hi (Nat.not_lt_zero _)) (fun i hi => absurd hi (Nat.not_lt_zero _))⟩
      · simp only [List.cons.injEq, and_true] at hd
        subst hd
        have each : ∀ i, i < len → ∃ y : Vt, y.Ok w ∧ ∀ j, j < 4 → w.cell? (ad.add (i * 4 + j)) = [Value.int .i64 y.k, .string (st y.t), y.ks.v, y.row][j]? := fun i hil => by
          have he := helem i hil
          rw [List.getElem?_eq_getElem (by omega)] at he
          obtain ⟨cs', hc, ht2⟩ := Option.bind_eq_some_iff.1 he
          obtain ⟨y, rfl, hy⟩ := ih m (by omega) cs' _ ht2
          rw [cV] at hc
          obtain ⟨_, _, hat⟩ := World.cells?_some hc
          exact ⟨y, hy, fun j hj => by rw [← add_add]; exact hat j hj⟩
        obtain ⟨X, hX⟩ := choose_lt each
        have hXl : ((List.range len).map X).length = len := by rw [List.length_map, List.length_range]
        refine ⟨.mk k s.data.toList r (some ad) cap ((List.range len).map X), ?_, .mk _ _ _ _ _ _ (i64_wf z0.2) z1.2 hr hrk (by rw [hXl]; exact hlc) hcm ?_ ?_⟩
        · rw [show (Vt.mk k s.data.toList r (some ad) cap ((List.range len).map X)).t = s.data.toList from rfl, st_of]
          show _ = [Value.int .i64 k, .string s, r.v, .slice (some ad) ((List.range len).map X).length cap]
          rw [hXl]
        · intro i hil
          rw [hXl] at hil
          obtain ⟨bb, ff, spot⟩ := ad
          have hspot : spot = none := by
            have := (hX 0 (by omega)).2 0 (by omega)
            simpa [Addr.add] using World.cell?_spot this
          subst hspot
          have hc := (hX i hil).2
          rw [List.getElem_map, List.getElem_range]
          refine ⟨bb, ff, rfl, ?_, ?_, ?_, ?_⟩
          · have := hc 0 (by omega); rw [add_plain] at this; exact this
          · have := hc 1 (by omega); rw [add_plain] at this; exact this
          · have := hc 2 (by omega); rw [add_plain] at this; exact this
          · have := hc 3 (by omega); rw [add_plain] at this; exact this
        · intro i hil
          rw [hXl] at hil
          rw [List.getElem_map, List.getElem_range]
          exact (hX i hil).1
theorem open_tree {tV tI tS tL tR : TypeId} {f0 f1 f2 f3 : Field} {r : Reach} {b0 : Nat} {v : Value} {d : DataW H} {p : List MemPlace}
    (hV : P.underlying tV = some (.struct #[f0, f1, f2, f3])) (ht : (f0.type = tI ∧ f0.offset = 0) ∧ (f1.type = tS ∧ f1.offset = 1) ∧ (f2.type = tL ∧ f2.offset = 2) ∧ f3.type = tR ∧ f3.offset = 3)
    (hI : P.underlying tI = some (.int .i64)) (hS : P.underlying tS = some .string) (hL : P.underlying tL = some (.slice tS)) (hR : P.underlying tR = some (.slice tV))
    (cV : P.cellsOf tV = 4) (cI : P.cellsOf tI = 1) (cS : P.cellsOf tS = 1) (cL : P.cellsOf tL = 1) (cR : P.cellsOf tR = 1)
    (hv : Value.okWide P w r b0 tV v) (h : DataW.Trod enc P w base spare held tV v d p) : ∃ y : Vt, v = y.v ∧ y.Ok w := by
  obtain ⟨cs, rfl, hsz⟩ := okWide_struct hV hv
  obtain ⟨fuel, hf⟩ := h
  obtain ⟨y, hy, ho⟩ := trod_tree hV ht hI hS hL hR cV cI cS cL cR fuel fuel (Nat.le_refl _) _ _ hf
  refine ⟨y, ?_, ho⟩
  obtain ⟨l⟩ := cs
  simp only [Value.cells] at hy
  rw [hy]
  rfl
end
end Go.Proofs.YtnlkokgekjlmmaaGreatDoor
