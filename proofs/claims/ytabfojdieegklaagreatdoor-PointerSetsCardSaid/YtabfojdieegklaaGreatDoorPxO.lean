/-
  WALK: the law PointerSets.
-/
import Derived.Test.YtabfojdieegklaaGreatDoorPxN
import Derived.Test.YtabfojdieegklaaGreatDoorPx2
import Derived.Test.YtabfojdieegklaaGreatDoorVuL
import Derived.Test.YtabfojdieegklaaGreatDoorPxL
namespace Go.Proofs.YtabfojdieegklaaGreatDoor
open Go.RowKit

/-- a value is a tree that can be gone over -/
def IsT (M : Vl) (a : Value) (V : World) : Prop := ∃ y : Vt, a = y.v ∧ Fine y V ∧ y.m = M
theorem IsT.grow {M : Vl} {a : Value} {V W : World} (h : IsT M a V) (hb : Below V.heap.size V W) : IsT M a W := by
  obtain ⟨y, h1, h2, h3⟩ := h
  exact ⟨y, h1, h2.grow hb, h3⟩
def FPostT (r : Option Vl) (V : World) (e : Ending) (W : World) : Prop := ∃ (k : Int) (t : Bs) (ko : Option Addr) (n kc : Nat) (o : Option Addr) (m c : Nat), e = .returned (.tuple #[.agg #[.int .i64 k, .string (st t), .slice ko n kc, .slice o m c], .bool r.isSome]) ∧ IsT (r.getD zeroL) (.agg #[.int .i64 k, .string (st t), .slice ko n kc, .slice o m c]) W ∧ Below V.heap.size V W
def SPostT (r : Vl × Int) (V : World) (e : Ending) (W : World) : Prop := ∃ (k : Int) (t : Bs) (ko : Option Addr) (n kc : Nat) (o : Option Addr) (m c : Nat), e = .returned (.tuple #[.agg #[.int .i64 k, .string (st t), .slice ko n kc, .slice o m c], .int .i64 r.2]) ∧ IsT r.1 (.agg #[.int .i64 k, .string (st t), .slice ko n kc, .slice o m c]) W ∧ Below V.heap.size V W
theorem findT {M : Vl} {a : Value} {V : World} (ha : IsT M a V) (o : Option Addr) (c : Nat) (l : List Bs) (hE : Env V) (hl : (⟨o, c, l⟩ : SRow).ok V) (hr : Room l) : Calls Tryz.prog 29 #[a, .slice o l.length c] V (FPostT (pfindM M l) V) := by
  obtain ⟨y, rfl, hf, rfl⟩ := ha
  refine (pFind_any y o c l V hE hf hl hr).mono (fun e W ⟨z, h1, h2, h3, h4⟩ => ?_)
  have hz := find_fine hf h2 h3
  obtain ⟨zk, zt, ⟨zko, zkc, zkl⟩, zo, zc, zis⟩ := z
  exact ⟨zk, zt, zko, zkl.length, zkc, zo, zis.length, zc, h1, ⟨_, rfl, hz, h3⟩, h4⟩
theorem psetR_all {P : Vl → Prop} (hP : ∀ k t ks is is', P (.mk k t ks is) → P (.mk k t ks is')) {x u : Vl} (hx : x.All P) (hu : u.All P) (hz : zeroL.All P) (l : List Bs) : (psetR x l u).1.All P := by
  unfold psetR
  split
  · split
    · split
      · exact psetM_all hP hu l x hx
      · exact hz
    · exact hz
  · exact hz
theorem psetR_size {x u : Vl} (l : List Bs) : (psetR x l u).1.size ≤ x.size + u.size := by
  have h0 : zeroL.size = 1 := by kernel_rfl
  have h1 : 1 ≤ x.size := by cases x; simp only [Vl.size]; omega
  unfold psetR
  split
  · split
    · split
      · exact psetM_size u l x
      · simp only [h0]; omega
    · simp only [h0]; omega
  · simp only [h0]; omega
theorem psetR_size2 {x u : Vl} (l : List Bs) : (psetR x l u).1.size ≤ 8192 := by
  have h0 : zeroL.size = 1 := by kernel_rfl
  unfold psetR
  split
  · rename_i h
    split
    · split
      · have h1 := psetM_size u l x
        have h2 := (open_good h.2.1).2.1
        have h3 := (open_good h.2.2).2.1
        simp only; omega
      · simp only [h0]; omega
    · simp only [h0]; omega
  · simp only [h0]; omega
theorem setT {M U : Vl} {a b : Value} {V : World} (ha : IsT M a V) (hb : IsT U b V) (o : Option Addr) (c : Nat) (l : List Bs) (hE : Env V) (hl : (⟨o, c, l⟩ : SRow).ok V) (hr : Room l) : Calls Tryz.prog 31 #[a, .slice o l.length c, b] V (SPostT (psetR M l U) V) := by
  obtain ⟨y, rfl, hf, rfl⟩ := ha
  obtain ⟨u, rfl, hu, rfl⟩ := hb
  refine (pSet_any y u o c l V hE hf hu hl hr).mono (fun e W ⟨z, h1, h2, h3, h4⟩ => ?_)
  have hz : Fine z W := ⟨h2.ok (by rw [h3]; exact psetR_all (P := Vl.Rng) (fun _ _ _ _ _ h => ⟨h.hk, h.ht, h.hkt⟩) hf.ok.rng hu.ok.rng zeroL_rng l), by rw [h3]; exact psetR_all (P := Lim) (fun _ _ _ _ _ h => ⟨h.1, h.2⟩) hf.lim hu.lim zeroL_lim l, by rw [h3]; have := psetR_size2 (x := y.m) (u := u.m) l; omega⟩
  obtain ⟨zk, zt, ⟨zko, zkc, zkl⟩, zo, zc, zis⟩ := z
  exact ⟨zk, zt, zko, zkl.length, zkc, zo, zis.length, zc, h1, ⟨_, rfl, hz, h3⟩, h4⟩
theorem equalT {M U : Vl} {a b : Value} {V : World} (ha : IsT M a V) (hb : IsT U b V) : Calls Tryz.prog 33 #[a, b] V (EqPost M U V) := by
  obtain ⟨y, rfl, hf, rfl⟩ := ha
  obtain ⟨u, rfl, hu, rfl⟩ := hb
  exact equal_any y u V hf.ok hu.ok
theorem equal_same {M : Vl} {a b : Value} {V : World} (ha : IsT M a V) (hb : IsT M b V) : Calls Tryz.prog 33 #[a, b] V fun e W => e = .returned (.bool true) ∧ Below V.heap.size V W :=
  (equalT ha hb).mono (fun e W ⟨v, h1, h2, h3⟩ => ⟨by rw [h1, h2.2 rfl], h3⟩)
/-! ### the mathematics of the law -/
theorem psetR_cases (X : Vl) (p : List Bs) (U : Vl) : psetR X p U = (zeroL, 1) ∨ psetR X p U = (zeroL, 8) ∨ (psetR X p U = (psetM p X U, 0) ∧ pgoodB p = true ∧ openM X = true ∧ openM U = true ∧ openM (psetM p X U) = true ∧ ∃ old, pgetM p X = some old) := by
  unfold psetR
  by_cases h1 : pgoodB p = true ∧ openM X = true ∧ openM U = true
  · rw [if_pos h1]
    cases h2 : pgetM p X with
    | none => exact .inr (.inl rfl)
    | some old =>
      rw [if_pos (show (some old).isSome = true from rfl)]
      by_cases h3 : openM (psetM p X U) = true
      · rw [if_pos h3]; exact .inr (.inr ⟨rfl, h1.1, h1.2.1, h1.2.2, h3, old, rfl⟩)
      · rw [if_neg h3]; exact .inl rfl
  · rw [if_neg h1]; exact .inl rfl
theorem pfind_set {X U old : Vl} {p : List Bs} (hg : pgoodB p = true) (ho : openM (psetM p X U) = true) (h : pgetM p X = some old) : pfindM (psetM p X U) p = some U := by
  unfold pfindM; rw [if_pos ⟨hg, ho⟩]; exact pget_pset U p X old h
theorem pfind_other {X U old : Vl} {p q : List Bs} {i : Nat} (hp : i < p.length) (hq' : i < q.length) (hX : openM X = true) (ho : openM (psetM p X U) = true) (h : pgetM p X = some old) (hne : p[i] ≠ q[i]) : pfindM (psetM p X U) q = pfindM X q := by
  unfold pfindM
  rw [hX, ho, pget_other U i p q X old hp hq' h hne]
theorem pfind_old {X old : Vl} {p : List Bs} (hg : pgoodB p = true) (hX : openM X = true) (h : pgetM p X = some old) : pfindM X p = some old := by
  unfold pfindM; rw [if_pos ⟨hg, hX⟩]; exact h
theorem pset_back {X U old : Vl} {p : List Bs} (hg : pgoodB p = true) (hX : openM X = true) (ho : openM (psetM p X U) = true) (h : pgetM p X = some old) : psetR (psetM p X U) p old = (X, 0) := by
  unfold psetR
  rw [if_pos ⟨hg, ho, pget_open p X old h hX⟩, pget_pset U p X old h, if_pos (show (some U).isSome = true from rfl), pset_pset U p X old h, if_pos hX]
set_option maxHeartbeats 16000000 in
set_option maxRecDepth 1000000 in
theorem psets_any (x u : Vt) (po qo : Option Addr) (pc qc : Nat) (p q : List Bs) (w : World) (hE : Env w) (hM : mx w) (hx : x.Ok w) (hu : u.Ok w) (hp : (⟨po, pc, p⟩ : SRow).ok w) (hq' : (⟨qo, qc, q⟩ : SRow).ok w) (hpt : Room p) (hqt : Room q) :
    Calls Tryz.prog 6 #[x.v, .slice po p.length pc, u.v, .slice qo q.length qc] w (BPost true w) := by
  have HSM := hq (fun V (hV : Below w.heap.size w V) => (smallP_any V (hE.grow hV) (mx_grow hM hV)).mono (R' := fun e w' => e = .returned (.bool true) ∧ Below V.heap.size V w') (fun e w' h => h))
  have HFX := hq (fun V (hV : Below w.heap.size w V) => few1_any x 300 V (hx.grow hV) (by decide))
  have HFU := hq (fun V (hV : Below w.heap.size w V) => few1_any u 300 V (hu.grow hV) (by decide))
  have HSP := hq (fun V (hV : Below w.heap.size w V) => short_any po pc p V hp.le hp.cp (hp.grow hV).rd hpt)
  have HSQ := hq (fun V (hV : Below w.heap.size w V) => short_any qo qc q V hq'.le hq'.cp (hq'.grow hV).rd hqt)
  have HTX : Hq (FewV x.m 300 → IsT x.m x.v w) := hq (fun hf => ⟨x, rfl, few_fine hx hf (by decide), rfl⟩)
  have HTU : Hq (FewV u.m 300 → IsT u.m u.v w) := hq (fun hf => ⟨u, rfl, few_fine hu hf (by decide), rfl⟩)
  have HFP := hq (fun V (hV : Below w.heap.size w V) M a (ha : IsT M a V) => findT ha po pc p (hE.grow hV) (hp.grow hV) hpt)
  have HFQ := hq (fun V (hV : Below w.heap.size w V) M a (ha : IsT M a V) => findT ha qo qc q (hE.grow hV) (hq'.grow hV) hqt)
  have HST := hq (fun V (hV : Below w.heap.size w V) M U a b (ha : IsT M a V) (hb : IsT U b V) => setT ha hb po pc p (hE.grow hV) (hp.grow hV) hpt)
  have HPG := hq (fun V (hV : Below w.heap.size w V) => (hp.grow hV).rd)
  have HQG := hq (fun V (hV : Below w.heap.size w V) => (hq'.grow hV).rd)
  have HP : Hq (∀ W', Below w.heap.size w W' → BPost true w (.returned (.bool true)) W') := hq (fun W' h => ⟨rfl, h⟩)
  generalize BPost true w = PP at *
  have hpl : p.length ≤ pc := hp.le
  have hpcp : pc ≤ maxLen := hp.cp
  have hql : q.length ≤ qc := hq'.le
  have hqcp : qc ≤ maxLen := hq'.cp
  unfold maxLen at hpcp hqcp
  clear hE hM hx hu hp hq' hpt hqt
  obtain ⟨k, t, ⟨ko, kc, kl⟩, o, c, is⟩ := x
  obtain ⟨k', t', ⟨ko', kc', kl'⟩, o', c', is'⟩ := u
  rw [Vt.v_mk'] at *
  rw [Vt.v_mk'] at *
  generalize (Vt.mk k t ⟨ko, kc, kl⟩ o c is).m = X at *
  generalize (Vt.mk k' t' ⟨ko', kc', kl'⟩ o' c' is').m = U at *
  obtain ⟨hb0, hw0, hw1⟩ := two_boxes w 37 #[.int .i64 k, .string (st t), .slice ko kl.length kc, .slice o is.length c] #[.int .i64 k', .string (st t'), .slice ko' kl'.length kc', .slice o' is'.length c']
  have HB0 := hq hb0
  have HW0 := hq hw0
  have HW1 := hq hw1
  clear hb0 hw0 hw1
  go_enter Tryz.func6, Tryz.ntmps6
  go_upto_region 1 with fail
  generalize w.heap.size = g0 at HW0 HW1
  generalize ((w.alloc (.cells #[.int .i64 k, .string (st t), .slice ko kl.length kc, .slice o is.length c] 37)).alloc (.cells #[.int .i64 k', .string (st t'), .slice ko' kl'.length kc', .slice o' is'.length c'] 37)) = V0 at *
  have HC0 := hq (fun V (hV : Below V0.heap.size V0 V) => And.intro (four_cells (HW0.o.grow hV)) (four_cells (HW1.o.grow hV)))
  clear HW0 HW1
  have HC := HSM.o V0 HB0.o
  clear HSM
  go_wp2_with fail
  refine HC.mono ?_
  rintro e w1 ⟨rfl, hb1⟩
  have HV1 := hq hb1
  have HB1 := hq (below_trans HB0.o hb1)
  clear HC hb1
  obtain ⟨⟨c0, c1, c2, c3⟩, d0, d1, d2, d3⟩ := HC0.o w1 HV1.o
  go_wp2_with fail
  refine (HFX.o w1 HB1.o).mono ?_
  rintro e w2 ⟨fx, rfl, hfx, hb2⟩
  have HHX := hq hfx
  have HV2 := hq (below_trans HV1.o hb2)
  have HB2 := hq (below_trans HB1.o hb2)
  clear hb2 hfx HFX c0 c1 c2 c3 d0 d1 d2 d3 HV1 HB1
  cases fx with
  | false =>
    have HV := hq (HP.o w2 HB2.o)
    clear HFU HSP HSQ HFP HFQ HST HPG HQG HP HC0
    go_wp2_with fail
    exact HV.o
  | true =>
  have HTX2 := hq (HTX.o (HHX.o rfl))
  clear HTX HHX
  obtain ⟨⟨c0, c1, c2, c3⟩, d0, d1, d2, d3⟩ := HC0.o w2 HV2.o
  go_wp2_with fail
  refine (HFU.o w2 HB2.o).mono ?_
  rintro e w3 ⟨fu, rfl, hfu, hb3⟩
  have HHU := hq hfu
  have HV3 := hq (below_trans HV2.o hb3)
  have HB3 := hq (below_trans HB2.o hb3)
  clear hb3 hfu HFU c0 c1 c2 c3 d0 d1 d2 d3 HV2 HB2
  cases fu with
  | false =>
    have HV := hq (HP.o w3 HB3.o)
    clear HSP HSQ HFP HFQ HST HPG HQG HP HC0
    go_wp2_with fail
    exact HV.o
  | true =>
  have HTU2 := hq (HTU.o (show FewV U 300 from by first | exact HHU.o rfl | exact HHU.o trivial))
  clear HTU HHU
  go_wp2_with fail
  refine (HSP.o w3 HB3.o).mono ?_
  rintro e w4 ⟨⟨vp, rfl, hvp⟩, hw4⟩
  obtain rfl := hw4.symm
  clear hw4 hvp HSP
  cases vp with
  | false =>
    have HV := hq (HP.o w3 HB3.o)
    clear HSQ HFP HFQ HST HPG HQG HP HC0
    go_wp2_with fail
    exact HV.o
  | true =>
  go_wp2_with fail
  refine (HSQ.o w3 HB3.o).mono ?_
  rintro e w5 ⟨⟨vq, rfl, hvq⟩, hw5⟩
  obtain rfl := hw5.symm
  clear hw5 hvq HSQ
  cases vq with
  | false =>
    have HV := hq (HP.o w3 HB3.o)
    clear HFP HFQ HST HPG HQG HP HC0
    go_wp2_with fail
    exact HV.o
  | true =>
  obtain ⟨⟨c0, c1, c2, c3⟩, d0, d1, d2, d3⟩ := HC0.o w3 HV3.o
  go_wp2_with fail
  have HC := HST.o w3 HB3.o X U _ _ (HTX2.o.grow HB3.o) (HTU2.o.grow HB3.o)
  have HCS := hq (psetR_cases X p U)
  generalize hRR : psetR X p U = R at HC HCS
  obtain ⟨S, er⟩ := R
  refine HC.mono ?_
  rintro e w6 ⟨sk, st', sko, sn, skc, so, sm, sc, rfl, hst, hb6⟩
  simp only at hst
  have HSI := hq hst
  have HV6 := hq (below_trans HV3.o hb6)
  have HB6 := hq (below_trans HB3.o hb6)
  clear HC hb6 hst c0 c1 c2 c3 d0 d1 d2 d3 HV3 HB3 hRR
  have HW6 := hq (Whole.made w6 37 #[.int .i64 sk, .string (st st'), .slice sko sn skc, .slice so sm sc])
  have HAL := hq (below_alloc w6 (.cells #[.int .i64 sk, .string (st st'), .slice sko sn skc, .slice so sm sc] 37))
  go_upto_region 6 with fail
  generalize w6.heap.size = g6 at HW6 ⊢
  have HSI7 := hq (HSI.o.grow HAL.o)
  have HV7 := hq (below_trans HV6.o HAL.o)
  have HB7 := hq (below_trans HB6.o HAL.o)
  clear HSI HAL HV6 HB6
  generalize (w6.alloc (.cells #[.int .i64 sk, .string (st st'), .slice sko sn skc, .slice so sm sc] 37)) = V7 at *
  rcases HCS.o with h | h | ⟨h, hg, hX, hU, hS, old, hget⟩
  · obtain ⟨rfl, rfl⟩ := Prod.mk.inj h
    have HV := hq (HP.o V7 HB7.o)
    clear HFP HFQ HST HPG HQG HP HC0 HCS h
    go_wp2_with fail
    exact HV.o
  · obtain ⟨rfl, rfl⟩ := Prod.mk.inj h
    have HV := hq (HP.o V7 HB7.o)
    clear HFP HFQ HST HPG HQG HP HC0 HCS h
    go_wp2_with fail
    exact HV.o
  obtain ⟨rfl, rfl⟩ := Prod.mk.inj h
  have F1 := hq (pfind_set hg hS hget)
  have F2 := hq (fun (i : Nat) (h1 : i < p.length) (h2 : i < q.length) (hne : p[i] ≠ q[i]) => pfind_other (U := U) h1 h2 hX hS hget hne)
  have F3 := hq (pfind_old hg hX hget)
  have F4 := hq (pset_back (U := U) hg hX hS hget)
  clear HCS h hg hX hU hS hget
  generalize psetM p X U = S at *
  obtain ⟨e0, e1, e2, e3⟩ := four_cells HW6.o
  have HC := HFP.o V7 HB7.o S _ HSI7.o
  rw [F1.o] at HC
  go_wp2_with fail
  refine HC.mono ?_
  rintro e w8 ⟨yk, yt, yko, yn, ykc, yo, ym, yc, rfl, hyt, hb8⟩
  have HYI := hq hyt
  have HV8 := hq (below_trans HV7.o hb8)
  have HB8 := hq (below_trans HB7.o hb8)
  have HW8 := hq (HW6.o.grow hb8)
  have HSI8 := hq (HSI7.o.grow hb8)
  clear HC hb8 hyt e0 e1 e2 e3 HV7 HB7 HW6 HSI7 F1
  have HWY := hq (Whole.made w8 37 #[.int .i64 yk, .string (st yt), .slice yko yn ykc, .slice yo ym yc])
  have HAL := hq (below_alloc w8 (.cells #[.int .i64 yk, .string (st yt), .slice yko yn ykc, .slice yo ym yc] 37))
  go_upto_region 9 with fail
  generalize w8.heap.size = g8 at HWY ⊢
  have HV9 := hq (below_trans HV8.o HAL.o)
  have HB9 := hq (below_trans HB8.o HAL.o)
  have HW9 := hq (HW8.o.grow HAL.o)
  have HSI9 := hq (HSI8.o.grow HAL.o)
  have HYI9 := hq (HYI.o.grow HAL.o)
  clear HYI HAL HV8 HB8 HW8 HSI8
  generalize (w8.alloc (.cells #[.int .i64 yk, .string (st yt), .slice yko yn ykc, .slice yo ym yc] 37)) = V9 at *
  obtain ⟨_, d0, d1, d2, d3⟩ := HC0.o V9 HV9.o
  obtain ⟨e0, e1, e2, e3⟩ := four_cells HWY.o
  have HC := equal_same HYI9.o (HTU2.o.grow HB9.o)
  go_wp2_with fail
  refine HC.mono ?_
  rintro e wA ⟨rfl, hbA⟩
  have HVA := hq (below_trans HV9.o hbA)
  have HBA := hq (below_trans HB9.o hbA)
  have HWA := hq (HW9.o.grow hbA)
  have HSIA := hq (HSI9.o.grow hbA)
  clear HC hbA d0 d1 d2 d3 e0 e1 e2 e3 HWY HYI9 HV9 HB9 HW9 HSI9
  go_wp2_with fail
  go_loopw [15] (fun i wr => ∃ j : Nat, j ≤ p.length ∧ j ≤ q.length ∧ i = .int .i64 (j : Int) ∧ Hq (Below wA.heap.size wA wr)) (fun i _ => p.length - (intOf i).toNat)
  case atStart => exact ⟨0, Nat.zero_le _, Nat.zero_le _, rfl, hq (Below.refl _ _)⟩
  case round =>
    obtain ⟨j, hj1, hj2, rfl, hb⟩ := hrel
    by_cases h : j < p.length ∧ j < q.length
    · obtain ⟨h1, h2⟩ := h
      have h1z : (j : Int) < (p.length : Int) := by omega
      have h2z : (j : Int) < (q.length : Int) := by omega
      have HBR := hq (below_trans HBA.o hb.o)
      obtain ⟨b, f, rfl, m0⟩ := HPG.o wr HBR.o j h1
      obtain ⟨b', f', rfl, m1⟩ := HQG.o wr HBR.o j h2
      have HNE := hq (F2.o j h1 h2)
      generalize p[j] = pj at *
      generalize q[j] = qj at *
      by_cases hne : pj = qj
      · have e5 : (pj == qj) = true := beq_iff_eq.2 hne
        have e6 : (pj != qj) = false := by rw [bne, e5]; rfl
        have HB2 := hq hb.o.drew
        clear hne HNE HFP HFQ HST HP HC0 HTX2 HTU2 F2 F3 F4 HSIA HWA hb
        go_wp2_with fail
        go_region
        go_wp2_with fail
        go_roundw
        case rel => exact ⟨j + 1, h1, h2, int_eq (by omega), HB2⟩
        case measure => simp [intOf]; omega
      · have e5 : (pj == qj) = false := beq_eq_false_iff_ne.2 hne
        have e6 : (pj != qj) = true := by rw [bne, e5]; rfl
        have hfo := HNE.o hne
        have HBD := hq HBR.o.drew
        have HVD := hq (below_trans HVA.o hb.o).drew
        have HWD := hq (whole_dr (HWA.o.grow hb.o))
        have HSD := hq (show IsT S _ wr.drew from (HSIA.o.grow hb.o).grow (Below.refl _ _).drew)
        obtain ⟨⟨c0, c1, c2, c3⟩, _⟩ := HC0.o wr.drew HVD.o
        have HC := HFQ.o wr.drew HBD.o X _ (HTX2.o.grow HBD.o)
        clear hne HNE HPG HQG HFP HST F2 F3 F4 hb HBR HVA HBA HWA HSIA
        go_wp2_with fail
        go_region
        generalize wr.drew = wD at *
        go_wp2_with fail
        refine HC.mono ?_
        rintro e wB ⟨ak, at', ako, an, akc, ao, am, ac, rfl, hat, hbB⟩
        have HAI := hq hat
        have HBB := hq (below_trans HBD.o hbB)
        have HWB := hq (HWD.o.grow hbB)
        have HSB := hq (HSD.o.grow hbB)
        clear HC hbB hat HBD HVD HWD HSD c0 c1 c2 c3
        have HWa := hq (Whole.made wB 37 #[.int .i64 ak, .string (st at'), .slice ako an akc, .slice ao am ac])
        have HAL := hq (below_alloc wB (.cells #[.int .i64 ak, .string (st at'), .slice ako an akc, .slice ao am ac] 37))
        go_upto_region 16 with fail
        generalize wB.heap.size = gB at HWa ⊢
        have HBC := hq (below_trans HBB.o HAL.o)
        have HWC := hq (HWB.o.grow HAL.o)
        have HSC := hq (HSB.o.grow HAL.o)
        have HAC := hq (HAI.o.grow HAL.o)
        clear HAI HAL HBB HWB HSB
        generalize (wB.alloc (.cells #[.int .i64 ak, .string (st at'), .slice ako an akc, .slice ao am ac] 37)) = VC at *
        obtain ⟨e0, e1, e2, e3⟩ := four_cells HWC.o
        have HC := HFQ.o VC HBC.o S _ HSC.o
        rw [hfo] at HC
        go_wp2_with fail
        refine HC.mono ?_
        rintro e wF ⟨bk, bt', bko, bn, bkc, bo, bm, bc, rfl, hbt, hbF⟩
        have HBI := hq hbt
        have HBF := hq (below_trans HBC.o hbF)
        have HWF := hq (HWa.o.grow hbF)
        have HAF := hq (HAC.o.grow hbF)
        clear HC hbF hbt HBC HWC HSC HAC HWa e0 e1 e2 e3
        have HWb := hq (Whole.made wF 37 #[.int .i64 bk, .string (st bt'), .slice bko bn bkc, .slice bo bm bc])
        have HAL := hq (below_alloc wF (.cells #[.int .i64 bk, .string (st bt'), .slice bko bn bkc, .slice bo bm bc] 37))
        go_upto_region 17 with fail
        generalize wF.heap.size = gF at HWb ⊢
        have HBH := hq (below_trans HBF.o HAL.o)
        have HWH := hq (HWF.o.grow HAL.o)
        have HAH := hq (HAF.o.grow HAL.o)
        have HBJ := hq (HBI.o.grow HAL.o)
        clear HBI HAL HBF HWF HAF
        generalize (wF.alloc (.cells #[.int .i64 bk, .string (st bt'), .slice bko bn bkc, .slice bo bm bc] 37)) = VH at *
        obtain ⟨e0, e1, e2, e3⟩ := four_cells HWH.o
        obtain ⟨f0, f1, f2, f3⟩ := four_cells HWb.o
        have HC := equal_same HAH.o HBJ.o
        generalize (pfindM X q).isSome = isq at *
        go_wp2_with fail
        refine HC.mono ?_
        rintro e wK ⟨rfl, hbK⟩
        have HV := hq (HP.o wK (below_trans HBH.o hbK))
        clear HC hbK HP HFQ HC0
        go_wp2_with fail
        first | exact HV.o | (go_ret; exact HV.o) | simpa using HV.o
    · have hz : (j : Int) < (p.length : Int) → ¬ (j : Int) < (q.length : Int) := fun h1 h2 => h ⟨by omega, by omega⟩
      have HBR := hq (below_trans HBA.o hb.o)
      have HVR := hq (below_trans HVA.o hb.o)
      have HWR := hq (HWA.o.grow hb.o)
      have HSR := hq (HSIA.o.grow hb.o)
      have hcs : (¬ (j : Int) < (p.length : Int)) ∨ ((j : Int) < (p.length : Int) ∧ ¬ (j : Int) < (q.length : Int)) := by omega
      clear HVA HBA HWA HSIA hb h hz HPG HQG HFQ F2
      rcases hcs with hcs | ⟨hcs, hcs2⟩
      all_goals
        obtain ⟨⟨c0, c1, c2, c3⟩, _⟩ := HC0.o wr HVR.o
        have HC := HFP.o wr HBR.o X _ (HTX2.o.grow HBR.o)
        rw [F3.o] at HC
        go_wp2_with fail
        refine HC.mono ?_
        rintro e wB ⟨ak, at', ako, an, akc, ao, am, ac, rfl, hat, hbB⟩
        have HAI := hq hat
        have HBB := hq (below_trans HBR.o hbB)
        have HVB := hq (below_trans HVR.o hbB)
        have HWB := hq (HWR.o.grow hbB)
        have HSB := hq (HSR.o.grow hbB)
        clear HC hbB hat HBR HVR HWR HSR c0 c1 c2 c3
        have HWa := hq (Whole.made wB 37 #[.int .i64 ak, .string (st at'), .slice ako an akc, .slice ao am ac])
        have HAL := hq (below_alloc wB (.cells #[.int .i64 ak, .string (st at'), .slice ako an akc, .slice ao am ac] 37))
        go_upto_region 19 with fail
        generalize wB.heap.size = gB at HWa ⊢
        have HBC := hq (below_trans HBB.o HAL.o)
        have HVC := hq (below_trans HVB.o HAL.o)
        have HWC := hq (HWB.o.grow HAL.o)
        have HSC := hq (HSB.o.grow HAL.o)
        have HAC := hq (HAI.o.grow HAL.o)
        clear HAI HAL HBB HVB HWB HSB
        generalize (wB.alloc (.cells #[.int .i64 ak, .string (st at'), .slice ako an akc, .slice ao am ac] 37)) = VC at *
        obtain ⟨e0, e1, e2, e3⟩ := four_cells HWC.o
        obtain ⟨f0, f1, f2, f3⟩ := four_cells HWa.o
        have HC := HST.o VC HBC.o S old _ _ HSC.o HAC.o
        rw [F4.o] at HC
        go_wp2_with fail
        refine HC.mono ?_
        rintro e wF ⟨bk, bt', bko, bn, bkc, bo, bm, bc, rfl, hbt, hbF⟩
        have HBI := hq hbt
        have HBF := hq (below_trans HBC.o hbF)
        have HVF := hq (below_trans HVC.o hbF)
        clear HC hbF hbt HBC HVC HWC HSC HAC HWa e0 e1 e2 e3 f0 f1 f2 f3
        have HWb := hq (Whole.made wF 37 #[.int .i64 bk, .string (st bt'), .slice bko bn bkc, .slice bo bm bc])
        have HAL := hq (below_alloc wF (.cells #[.int .i64 bk, .string (st bt'), .slice bko bn bkc, .slice bo bm bc] 37))
        go_upto_region 20 with fail
        generalize wF.heap.size = gF at HWb ⊢
        have HBH := hq (below_trans HBF.o HAL.o)
        have HVH := hq (below_trans HVF.o HAL.o)
        have HBJ := hq (HBI.o.grow HAL.o)
        clear HBI HAL HBF HVF
        generalize (wF.alloc (.cells #[.int .i64 bk, .string (st bt'), .slice bko bn bkc, .slice bo bm bc] 37)) = VH at *
        obtain ⟨⟨c0, c1, c2, c3⟩, _⟩ := HC0.o VH HVH.o
        obtain ⟨f0, f1, f2, f3⟩ := four_cells HWb.o
        have HC := equal_same HBJ.o (HTX2.o.grow HBH.o)
        go_wp2_with fail
        refine HC.mono ?_
        rintro e wK ⟨rfl, hbK⟩
        have HV := hq (HP.o wK (below_trans HBH.o hbK))
        clear HC hbK HP HC0
        go_wp2_with fail
        first | exact HV.o | (go_ret; exact HV.o) | simpa using HV.o
end Go.Proofs.YtabfojdieegklaaGreatDoor
