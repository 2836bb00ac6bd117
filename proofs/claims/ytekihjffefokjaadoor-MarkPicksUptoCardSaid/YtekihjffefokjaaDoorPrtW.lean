/-
  A ROW OF PARTS AS AN ARGUMENT, WITH ITS DATUM: how great its texts are by the reach.
-/
import Derived.Test.YtekihjffefokjaaDoorPrtA
import Derived.SizedLaws
namespace Go.Proofs.YtekihjffefokjaaDoor
open Go.ChangeShapes Go.WideShapes Go.ChangeAt Go.RowKit Go.Deep

section
variable {H : Type} {enc : TypeId × Value → H} {P : Program} {w : World} {base : Nat} {spare : Nat → Bool} {held : Bool}
def partD (y : MPart) : DataW H := .agg [.lit (.bool y.hunk), .lit (.string y.text), .agg [.lit (.string y.s0), .lit (.string y.s1), .lit (.string y.s2)]]
theorem trod_partD {tP tA tB tS : TypeId} {f0 f1 f2 : Field} {fuel : Nat} {cs : List Value} {x : DataW H × List MemPlace}
    (hP : P.underlying tP = some (.struct #[f0, f1, f2])) (ht : (f0.type = tB ∧ f0.offset = 0) ∧ (f1.type = tS ∧ f1.offset = 1) ∧ f2.type = tA ∧ f2.offset = 2) (hA : P.underlying tA = some (.array 3 tS)) (hB : P.underlying tB = some .bool) (hS : P.underlying tS = some .string)
    (cP : P.cellsOf tP = 5) (cA : P.cellsOf tA = 3) (cB : P.cellsOf tB = 1) (cS : P.cellsOf tS = 1)
    (h : DataW.trod enc P w base spare held fuel tP cs = some x) :
    ∃ y : MPart, cs = [.bool y.hunk, .string (st y.text), .string (st y.s0), .string (st y.s1), .string (st y.s2)] ∧ Lens maxLen y ∧ x.2 = [] ∧ x.1 = partD y := by
  obtain ⟨⟨t0, o0⟩, ⟨t1, o1⟩, t2, o2⟩ := ht
  obtain ⟨y0, y1, y2, n, rfl, hl, h0, h1, h2⟩ := trod_struct3 hP h
  rw [t0, o0] at h0
  rw [t1, o1] at h1
  rw [t2, o2] at h2
  rw [cP] at hl
  match cs, hl with
  | [c0, c1, c2, c3, c4], _ =>
    simp only [cA, cB, cS, List.drop_zero, List.drop_succ_cons, List.take_succ_cons, List.take_zero] at h0 h1 h2
    obtain ⟨b, q0, rfl⟩ := DataW.trod_bool hB h0
    obtain ⟨s, q1, rfl, z1⟩ := DataW.trod_string hS h1
    obtain ⟨u0, u1, u2, m, rfl, k0, k1, k2⟩ := trod_array3 hA cS h2
    obtain ⟨a0, p0, rfl, z2⟩ := DataW.trod_string hS k0
    obtain ⟨a1, p1, rfl, z3⟩ := DataW.trod_string hS k1
    obtain ⟨a2, p2, rfl, z4⟩ := DataW.trod_string hS k2
    simp only [List.cons.injEq, and_true] at q0 q1 p0 p1 p2
    subst q0 q1 p0 p1 p2
    exact ⟨⟨b, s.data.toList, a0.data.toList, a1.data.toList, a2.data.toList⟩, by simp only [st_of'], ⟨z1, z2, z3, z4⟩, rfl, rfl⟩
theorem open_partsD {tL tP tA tB tS : TypeId} {f0 f1 f2 : Field} {r : Reach} {b0 : Nat} {v : Value} {d : DataW H} {p : List MemPlace} (hL : P.underlying tL = some (.slice tP))
    (hP : P.underlying tP = some (.struct #[f0, f1, f2])) (hF : (f0.type = tB ∧ f0.offset = 0) ∧ (f1.type = tS ∧ f1.offset = 1) ∧ f2.type = tA ∧ f2.offset = 2) (hA : P.underlying tA = some (.array 3 tS)) (hB : P.underlying tB = some .bool) (hS : P.underlying tS = some .string)
    (cP : P.cellsOf tP = 5) (cA : P.cellsOf tA = 3) (cB : P.cellsOf tB = 1) (cS : P.cellsOf tS = 1)
    (hv : Value.okWide P w r b0 tL v) (h : DataW.Trod enc P w base spare held tL v d p) :
    ∃ (o : Option Addr) (cap : Nat) (l : List MPart), v = .slice o l.length cap ∧ l.length ≤ cap ∧ cap ≤ maxLen ∧ PartsIn w o l ∧ (l = [] ∨ ∃ sp, d = .slice (l.map partD) sp) := by
  obtain ⟨a0, len, cap, rfl⟩ := okWide_slice hL hv
  obtain ⟨fuel, hf⟩ := h
  rcases open_slice hL hf with ⟨hcs, hx⟩ | ⟨a, len', cap', m, n, D, Pl, hcs, hb, hl, hm, hmm, hx, hi⟩
  · simp [Value.cells] at hcs
    obtain ⟨rfl, rfl, rfl⟩ := hcs
    exact ⟨none, 0, [], rfl, Nat.le_refl _, Nat.zero_le _, PartsIn.nil _ _, .inl rfl⟩
  · simp [Value.cells] at hcs
    obtain ⟨rfl, rfl, rfl⟩ := hcs
    have hlm : len ≤ m := by rw [hmm]; split <;> omega
    have each : ∀ i, i < len → ∃ y : MPart, D i = partD y ∧ ∀ j, j < 5 → w.cell? (a.add (i * 5 + j)) = [Value.bool y.hunk, .string (st y.text), .string (st y.s0), .string (st y.s1), .string (st y.s2)][j]? := fun i hil => by
      obtain ⟨cs, hc, ht⟩ := hi i (by omega)
      obtain ⟨y, rfl, _, _, hy⟩ := trod_partD hP hF hA hB hS cP cA cB cS ht
      rw [cP] at hc
      obtain ⟨_, _, hat⟩ := World.cells?_some hc
      exact ⟨y, hy, fun j hj => by rw [← add_add]; exact hat j hj⟩
    obtain ⟨X, hX⟩ := choose_lt each
    refine ⟨some a, cap, (List.range len).map X, by rw [List.length_map, List.length_range], by rw [List.length_map, List.length_range]; exact hl, hm, ?_, .inr ⟨(List.range (m - len)).map fun j => D (len + j), ?_⟩⟩
    · intro i hil
      rw [List.length_map, List.length_range] at hil
      obtain ⟨b, f, spot⟩ := a
      have hspot : spot = none := by
        have := (hX 0 (by omega)).2 0 (by omega)
        simpa [Addr.add] using World.cell?_spot this
      subst hspot
      have hc := (hX i hil).2
      rw [List.getElem_map, List.getElem_range]
      refine ⟨b, f, rfl, ?_, ?_, ?_, ?_, ?_⟩
      · have := hc 0 (by omega); rw [add_plain] at this; exact this
      · have := hc 1 (by omega); rw [add_plain] at this; exact this
      · have := hc 2 (by omega); rw [add_plain] at this; exact this
      · have := hc 3 (by omega); rw [add_plain] at this; exact this
      · have := hc 4 (by omega); rw [add_plain] at this; exact this
    · have e1 : (List.range len).map D = ((List.range len).map X).map partD := by
        rw [List.map_map]
        refine List.map_congr_left fun i hi => ?_
        exact (hX i (List.mem_range.1 hi)).1
      have := congrArg Prod.fst hx
      rw [← e1]
      exact this
/-- the reach holds each text of a row of parts -/
theorem parts_reach {tL tP tA tB tS : TypeId} {f0 f1 f2 : Field} {ts : List TypeId} {ds : List (DataW H)} {j : Nat} {l : List MPart} {sp : List (DataW H)} (hL : P.underlying tL = some (.slice tP))
    (hP : P.underlying tP = some (.struct #[f0, f1, f2])) (hF : (f0.type = tB ∧ f0.offset = 0) ∧ (f1.type = tS ∧ f1.offset = 1) ∧ f2.type = tA ∧ f2.offset = 2) (hA : P.underlying tA = some (.array 3 tS))
    (h : (DataW.weightsEach P ts ds).all (· ≤ reachBytes) = true) (ht : ts[j]? = some tL) (hd : ds[j]? = some (.slice (l.map partD) sp)) : ∀ x ∈ l, Lens reachBytes x := by
  intro x hx
  have hall : ∀ (l : List MPart), x ∈ l → ∀ n ∈ (partD x : DataW H).weights P tP, n ∈ DataW.weightsAll P tP (l.map (partD (H := H))) := by
    intro l
    induction l with
    | nil => intro h; cases h
    | cons y l ih =>
      intro hm n hn
      rw [List.map_cons, DataW.weightsAll]
      rcases List.mem_cons.1 hm with rfl | hm
      · exact List.mem_append_left _ hn
      · exact List.mem_append_right _ (ih hm n hn)
  have hw : (partD x : DataW H).weights P tP = [x.text.length, x.s0.length, x.s1.length, x.s2.length] := by
    simp [partD, DataW.weights, hP, DataW.weightsEach, hF.2.2.1, hA, DataW.weightsAll]
  have hin : ∀ n ∈ [x.text.length, x.s0.length, x.s1.length, x.s2.length], n ≤ reachBytes := fun n hn => by
    have hm := DataW.weights_mem_each ht hd n (by
      rw [DataW.weights, hL]
      simp only
      exact List.mem_cons_of_mem _ (List.mem_append_left _ (hall l hx n (by rw [hw]; exact hn))))
    simpa using List.all_eq_true.1 h _ hm
  exact ⟨hin _ (by simp), hin _ (by simp), hin _ (by simp), hin _ (by simp)⟩
end
end Go.Proofs.YtekihjffefokjaaDoor
