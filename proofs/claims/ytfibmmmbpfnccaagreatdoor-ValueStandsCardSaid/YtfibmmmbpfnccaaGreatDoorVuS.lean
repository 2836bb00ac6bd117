/-
  WALK: the law ValueSorts.
-/
import Derived.Test.YtfibmmmbpfnccaaGreatDoorVuL
import Derived.Test.YtfibmmmbpfnccaaGreatDoorVtZ
import Derived.Test.YtfibmmmbpfnccaaGreatDoorVlD
import Derived.Test.YtfibmmmbpfnccaaGreatDoorVtE
namespace Go.Proofs.YtfibmmmbpfnccaaGreatDoor
open Go.RowKit

theorem all_sort {p : Vl → Prop} (hp : ∀ k t ks is ks' is', p (.mk k t ks is) → (∀ x ∈ ks', x ∈ ks) → p (.mk k t ks' is')) : ∀ v : Vl, v.All p → (sortV v).All p := Vl.ind (fun k t ks is ih h => by
  by_cases h6 : k = 6
  · subst h6
    rw [sortV_six]
    refine .mk _ _ _ _ (hp _ _ _ _ _ _ h.here (fun x hx => ?_)) (fun x hx => ?_)
    · obtain ⟨⟨a, b⟩, hq, rfl⟩ := List.mem_map.1 hx
      exact (List.of_mem_zip ((isort_perm cmpB _).mem_iff.1 hq)).1
    · obtain ⟨⟨a, b⟩, hq, rfl⟩ := List.mem_map.1 hx
      obtain ⟨y, hy, rfl⟩ := List.mem_map.1 (List.of_mem_zip ((isort_perm cmpB _).mem_iff.1 hq)).2
      exact ih y hy (h.items y hy)
  · rw [sortV_else h6]
    refine .mk _ _ _ _ (hp _ _ _ _ _ _ h.here (fun x hx => by cases hx)) (fun x hx => ?_)
    obtain ⟨y, hy, rfl⟩ := List.mem_map.1 hx
    exact ih y hy (h.items y hy))
theorem rng_sort {v : Vl} (h : v.All Vl.Rng) : (sortV v).All Vl.Rng := all_sort (fun _ _ _ _ _ _ h hs => ⟨h.hk, h.ht, fun x hx => h.hkt x (hs x hx)⟩) v h
theorem lim_sort {v : Vl} (h : v.All Lim) : (sortV v).All Lim := all_sort (p := Lim) (fun _ _ _ _ _ _ h hs => ⟨h.1, fun x hx => h.2 x (hs x hx)⟩) v h
/-- a value is a tree that can be read -/
def IsM (m : Vl) (a : Value) (V : World) : Prop := ∃ y : Vt, a = y.v ∧ y.Ok V ∧ y.m = m
theorem equalM_any {m n : Vl} {A B : Value} {V : World} {r : Bool} (hA : IsM m A V) (hB : IsM n B V) (hr : r = true ↔ m = n) : Calls Tryz.prog 19 #[A, B] V (BPost r V) := by
  obtain ⟨x, rfl, hx, rfl⟩ := hA
  obtain ⟨y, rfl, hy, rfl⟩ := hB
  refine (equal_any x y V hx hy).mono ?_
  rintro e V' ⟨v, rfl, hv, hb⟩
  refine ⟨?_, hb⟩
  congr 2
  rw [Bool.eq_iff_iff, hv, hr]
/-- what lies in memory ahead of the law's last line -/
structure Pz (w : World) (g gx gy : Nat) (CA CB CX CY : Array Value) (xs ys : Vt) (W : World) : Prop where
  lo : Below w.heap.size w W
  a : Whole W g 25 CA
  b : Whole W (g + 1) 25 CB
  x : Whole W gx 25 CX
  y : Whole W gy 25 CY
  fx : Fine xs W
  fy : Fine ys W
theorem Pz.grow {w W W' : World} {g gx gy : Nat} {CA CB CX CY : Array Value} {xs ys : Vt} (h : Pz w g gx gy CA CB CX CY xs ys W) (hb : Below W.heap.size W W') : Pz w g gx gy CA CB CX CY xs ys W' :=
  ⟨below_trans h.lo hb, h.a.grow hb, h.b.grow hb, h.x.grow hb, h.y.grow hb, h.fx.grow hb, h.fy.grow hb⟩
theorem Pz.drew {w W : World} {g gx gy : Nat} {CA CB CX CY : Array Value} {xs ys : Vt} (h : Pz w g gx gy CA CB CX CY xs ys W) : Pz w g gx gy CA CB CX CY xs ys W.drew := h.grow (Below.refl _ _).drew
def SrtM (m : Vl) (V : World) (e : Ending) (V' : World) : Prop := ∃ a : Value, e = .returned a ∧ Hq (IsM m a V') ∧ Below V.heap.size V V'
set_option maxHeartbeats 16000000 in
set_option maxRecDepth 1000000 in
theorem sorts_any (x y : Vt) (w : World) (hE : Env w) (hsm : SmallAt w) (hx : x.Ok w) (hy : y.Ok w) :
    Calls Tryz.prog 6 #[x.v, y.v] w (BPost true w) := by
  have HSM := hq hsm
  have HE := hq hE
  have HRX := hq hx.rng
  have HRY := hq hy.rng
  have HFX := hq (fun V (hV : Below w.heap.size w V) => few1_any x 200 V (hx.grow hV) (by decide))
  have HFY := hq (fun V (hV : Below w.heap.size w V) => few1_any y 200 V (hy.grow hV) (by decide))
  have HNX := hq (fun (h : FewV x.m 200) V (hV : Below w.heap.size w V) => few_fine (hx.grow hV) h (by decide))
  have HNY := hq (fun (h : FewV y.m 200) V (hV : Below w.heap.size w V) => few_fine (hy.grow hV) h (by decide))
  have HZX := hq (fun (h : FewV x.m 200) => Nat.le_trans x.m.size_weight h.wt)
  clear hE hsm hx hy
  have HP : Hq (∀ W', Below w.heap.size w W' → BPost true w (.returned (.bool true)) W') := hq (fun W' h => ⟨rfl, h⟩)
  generalize hPP : BPost true w = PP at *
  clear hPP
  obtain ⟨k, t, ⟨ko, kc, kl⟩, o, c, is⟩ := x
  obtain ⟨k', t', ⟨ko', kc', kl'⟩, o', c', is'⟩ := y
  have HVX : Hq ((Vt.mk k t ⟨ko, kc, kl⟩ o c is).v = .agg #[.int .i64 k, .string (st t), .slice ko kl.length kc, .slice o is.length c]) := hq rfl
  have HVY : Hq ((Vt.mk k' t' ⟨ko', kc', kl'⟩ o' c' is').v = .agg #[.int .i64 k', .string (st t'), .slice ko' kl'.length kc', .slice o' is'.length c']) := hq rfl
  generalize (Vt.mk k t ⟨ko, kc, kl⟩ o c is) = X at *
  generalize (Vt.mk k' t' ⟨ko', kc', kl'⟩ o' c' is') = Y at *
  rw [HVX.o, HVY.o]
  rw [HVX.o] at HFX
  rw [HVY.o] at HFY
  obtain ⟨hb0, hw0, hw1⟩ := two_boxes w 25 #[.int .i64 k, .string (st t), .slice ko kl.length kc, .slice o is.length c] #[.int .i64 k', .string (st t'), .slice ko' kl'.length kc', .slice o' is'.length c']
  have HB0 := hq hb0
  have HW0 := hq hw0
  have HW1 := hq hw1
  clear hb0 hw0 hw1
  go_enter Tryz.func6, Tryz.ntmps6
  go_upto_region 1 with fail
  generalize w.heap.size = g at HW0 HW1
  generalize ((w.alloc (.cells #[.int .i64 k, .string (st t), .slice ko kl.length kc, .slice o is.length c] 25)).alloc (.cells #[.int .i64 k', .string (st t'), .slice ko' kl'.length kc', .slice o' is'.length c'] 25)) = V0 at *
  have hVC := hq (fun wr (hb : Below V0.heap.size V0 wr) => And.intro (HW0.o.grow hb) (HW1.o.grow hb))
  clear HW0 HW1
  have HSC := hq (HSM.o V0 HB0.o)
  clear HSM
  go_wp2_with fail
  refine HSC.o.mono ?_
  rintro e w1 ⟨rfl, hb1⟩
  have HV1 := hq hb1
  have HB1 := hq (below_trans HB0.o hb1)
  obtain ⟨a0, a1, a2, a3⟩ := four_cells (hVC.o w1 hb1).1
  clear hb1 HSC
  go_wp2_with fail
  refine (HFX.o w1 HB1.o).mono ?_
  rintro e w2 ⟨fx, rfl, hfx, hb2⟩
  have HV2 := hq (below_trans HV1.o hb2)
  have HB2 := hq (below_trans HB1.o hb2)
  have HHX := hq hfx
  clear hb2 hfx HFX a0 a1 a2 a3 HV1 HB1
  obtain ⟨b0, b1, b2, b3⟩ := four_cells (hVC.o w2 HV2.o).2
  cases fx with
  | false =>
    have HV := hq (HP.o w2 HB2.o)
    clear HFY HNX HNY HZX HP HHX
    go_wp2_with fail
    exact HV.o
  | true =>
  have HFX' := hq (HHX.o rfl)
  clear HHX
  go_wp2_with fail
  refine (HFY.o w2 HB2.o).mono ?_
  rintro e w3 ⟨fy, rfl, hfy, hb3⟩
  have HV3 := hq (below_trans HV2.o hb3)
  have HB3 := hq (below_trans HB2.o hb3)
  have HHY := hq hfy
  clear hb3 hfy HFY b0 b1 b2 b3 HV2 HB2
  obtain ⟨a0, a1, a2, a3⟩ := four_cells (hVC.o w3 HV3.o).1
  cases fy with
  | false =>
    have HV := hq (HP.o w3 HB3.o)
    clear HNX HNY HZX HP HHY HFX'
    go_wp2_with fail
    exact HV.o
  | true =>
  have HFY' := hq (HHY.o rfl)
  have HZ := hq (HZX.o HFX'.o)
  have HNX' := hq (HNX.o HFX'.o)
  have HNY' := hq (HNY.o HFY'.o)
  clear HHY HFX' HFY' HZX HNX HNY
  have HOX : Hq (∀ V, Below w.heap.size w V → Calls Tryz.prog 23 #[.agg #[.int .i64 k, .string (st t), .slice ko kl.length kc, .slice o is.length c]] V (BPost (openM X.m) V)) := hq (fun V hV => by
    have := open_any X V (HE.o.grow hV) (HNX'.o V hV).ok (HNX'.o V hV).lim (Nat.le_trans (HNX'.o V hV).sz (by decide))
    rwa [HVX.o] at this)
  have HOY : Hq (∀ V, Below w.heap.size w V → Calls Tryz.prog 23 #[.agg #[.int .i64 k', .string (st t'), .slice ko' kl'.length kc', .slice o' is'.length c']] V (BPost (openM Y.m) V)) := hq (fun V hV => by
    have := open_any Y V (HE.o.grow hV) (HNY'.o V hV).ok (HNY'.o V hV).lim (Nat.le_trans (HNY'.o V hV).sz (by decide))
    rwa [HVY.o] at this)
  go_wp2_with fail
  refine (HOX.o w3 HB3.o).mono ?_
  rintro e w4 ⟨rfl, hb4⟩
  have HV4 := hq (below_trans HV3.o hb4)
  have HB4 := hq (below_trans HB3.o hb4)
  clear hb4 HOX a0 a1 a2 a3 HV3 HB3
  obtain ⟨b0, b1, b2, b3⟩ := four_cells (hVC.o w4 HV4.o).2
  cases hox : openM X.m with
  | false =>
    have HV := hq (HP.o w4 HB4.o)
    clear hox HNX' HNY' HZ HP HOY
    go_wp2_with fail
    exact HV.o
  | true =>
  have HOPX := hq hox
  clear hox
  go_wp2_with fail
  refine (HOY.o w4 HB4.o).mono ?_
  rintro e w5 ⟨rfl, hb5⟩
  have HV5 := hq (below_trans HV4.o hb5)
  have HB5 := hq (below_trans HB4.o hb5)
  clear hb5 HOY b0 b1 b2 b3 HV4 HB4
  obtain ⟨a0, a1, a2, a3⟩ := four_cells (hVC.o w5 HV5.o).1
  cases hoy : openM Y.m with
  | false =>
    have HV := hq (HP.o w5 HB5.o)
    clear hoy HNX' HNY' HZ HP HOPX
    go_wp2_with fail
    exact HV.o
  | true =>
  have HOPY := hq hoy
  clear hoy
  have HSO : Hq (∀ V A (xs : Vt), ((xs = X) ∨ (xs = Y) ∨ (Fine xs V ∧ openM xs.m = true)) → A = xs.v → Below w.heap.size w V → Calls Tryz.prog 33 #[A] V (RemPost (sortV xs.m) V)) := hq (fun V A xs h hA hV => by
    subst hA
    rcases h with rfl | rfl | ⟨h1, h2⟩
    · have := vSorted_any xs V (HE.o.grow hV) (HNX'.o V hV)
      rwa [if_pos HOPX.o] at this
    · have := vSorted_any xs V (HE.o.grow hV) (HNY'.o V hV)
      rwa [if_pos HOPY.o] at this
    · have := vSorted_any xs V (HE.o.grow hV) h1
      rwa [if_pos h2] at this)
  go_wp2_with fail
  refine (HSO.o w5 _ X (.inl rfl) HVX.o.symm HB5.o).mono ?_
  rintro e w6 ⟨xs, rfl, hxo, hxm, hb6⟩
  have HXO : Hq (∀ V, Below w6.heap.size w6 V → xs.Ok V) := hq (fun V hV => (hxo.ok (by rw [hxm]; exact rng_sort HRX.o)).grow hV)
  have HXM := hq hxm
  have HV6 := hq (below_trans HV5.o hb6)
  have HB6 := hq (below_trans HB5.o hb6)
  clear hxo hxm hb6 HV5 HB5 a0 a1 a2 a3
  obtain ⟨xk, xt, ⟨xko, xkc, xkl⟩, xo, xc, xis⟩ := xs
  have HVXS : Hq ((Vt.mk xk xt ⟨xko, xkc, xkl⟩ xo xc xis).v = .agg #[.int .i64 xk, .string (st xt), .slice xko xkl.length xkc, .slice xo xis.length xc]) := hq rfl
  generalize (Vt.mk xk xt ⟨xko, xkc, xkl⟩ xo xc xis) = xs at *
  rw [HVXS.o]
  go_upto_region 6 with fail
  have HX7 := hq (Whole.made w6 25 #[.int .i64 xk, .string (st xt), .slice xko xkl.length xkc, .slice xo xis.length xc])
  have HV7 := hq (below_trans HV6.o (below_alloc w6 (.cells #[.int .i64 xk, .string (st xt), .slice xko xkl.length xkc, .slice xo xis.length xc] 25)))
  have HB7 := hq (below_trans HB6.o (below_alloc w6 (.cells #[.int .i64 xk, .string (st xt), .slice xko xkl.length xkc, .slice xo xis.length xc] 25)))
  have HXO7 := hq (HXO.o _ (below_alloc w6 (.cells #[.int .i64 xk, .string (st xt), .slice xko xkl.length xkc, .slice xo xis.length xc] 25)))
  clear HXO HV6 HB6
  generalize (w6.alloc _) = W7 at *
  generalize w6.heap.size = gx at *
  obtain ⟨b0, b1, b2, b3⟩ := four_cells (hVC.o W7 HV7.o).2
  go_wp2_with fail
  refine (HSO.o W7 _ Y (.inr (.inl rfl)) HVY.o.symm HB7.o).mono ?_
  rintro e w8 ⟨ys, rfl, hyo, hym, hb8⟩
  have HYO : Hq (∀ V, Below w8.heap.size w8 V → ys.Ok V) := hq (fun V hV => (hyo.ok (by rw [hym]; exact rng_sort HRY.o)).grow hV)
  have HYM := hq hym
  have HV8 := hq (below_trans HV7.o hb8)
  have HB8 := hq (below_trans HB7.o hb8)
  have HX8 := hq (HX7.o.grow hb8)
  have HXO8 := hq (HXO7.o.grow hb8)
  clear hyo hym hb8 HV7 HB7 b0 b1 b2 b3 HX7 HXO7
  obtain ⟨yk, yt, ⟨yko, ykc, ykl⟩, yo, yc, yis⟩ := ys
  have HVYS : Hq ((Vt.mk yk yt ⟨yko, ykc, ykl⟩ yo yc yis).v = .agg #[.int .i64 yk, .string (st yt), .slice yko ykl.length ykc, .slice yo yis.length yc]) := hq rfl
  generalize (Vt.mk yk yt ⟨yko, ykc, ykl⟩ yo yc yis) = ys at *
  rw [HVYS.o]
  go_upto_region 7 with fail
  have hbA := below_alloc w8 (.cells #[.int .i64 yk, .string (st yt), .slice yko ykl.length ykc, .slice yo yis.length yc] 25)
  have HFXS : Hq (∀ V, xs.Ok V → Fine xs V) := hq (fun V h => ⟨h, by rw [HXM.o]; exact lim_sort (HNX'.o w (Below.refl _ _)).lim, by rw [HXM.o, sort_size _ (open_good HOPX.o).1]; exact (HNX'.o w (Below.refl _ _)).sz⟩)
  have HFYS : Hq (∀ V, ys.Ok V → Fine ys V) := hq (fun V h => ⟨h, by rw [HYM.o]; exact lim_sort (HNY'.o w (Below.refl _ _)).lim, by rw [HYM.o, sort_size _ (open_good HOPY.o).1]; exact (HNY'.o w (Below.refl _ _)).sz⟩)
  have HT : Hq (Pz w g gx w8.heap.size #[.int .i64 k, .string (st t), .slice ko kl.length kc, .slice o is.length c] #[.int .i64 k', .string (st t'), .slice ko' kl'.length kc', .slice o' is'.length c'] #[.int .i64 xk, .string (st xt), .slice xko xkl.length xkc, .slice xo xis.length xc] #[.int .i64 yk, .string (st yt), .slice yko ykl.length ykc, .slice yo yis.length yc] xs ys (w8.alloc (.cells #[.int .i64 yk, .string (st yt), .slice yko ykl.length ykc, .slice yo yis.length yc] 25))) :=
    hq ⟨below_trans HB8.o hbA, (hVC.o _ (below_trans HV8.o hbA)).1, (hVC.o _ (below_trans HV8.o hbA)).2, HX8.o.alloc _, Whole.made _ _ _, HFXS.o _ (HXO8.o.grow hbA), HFYS.o _ (HYO.o _ hbA)⟩
  clear hbA HX8 HXO8 HYO HV8 HB8 hVC HFXS HFYS
  generalize (w8.alloc _) = W9 at *
  generalize w8.heap.size = gy at *
  have hT1 := HT.o
  clear HT
  generalize hCA : (#[.int .i64 k, .string (st t), .slice ko kl.length kc, .slice o is.length c] : Array Value) = CA at *
  generalize hCB : (#[.int .i64 k', .string (st t'), .slice ko' kl'.length kc', .slice o' is'.length c'] : Array Value) = CB at *
  generalize hCX : (#[.int .i64 xk, .string (st xt), .slice xko xkl.length xkc, .slice xo xis.length xc] : Array Value) = CX at *
  generalize hCY : (#[.int .i64 yk, .string (st yt), .slice yko ykl.length ykc, .slice yo yis.length yc] : Array Value) = CY at *
  have HC4 : Hq (∀ W, Pz w g gx gy CA CB CX CY xs ys W → ((W.cell? ⟨g, 0, none⟩ = some (.int .i64 k) ∧ W.cell? ⟨g, 1, none⟩ = some (.string (st t)) ∧ W.cell? ⟨g, 2, none⟩ = some (.slice ko kl.length kc) ∧ W.cell? ⟨g, 3, none⟩ = some (.slice o is.length c)) ∧ (W.cell? ⟨g + 1, 0, none⟩ = some (.int .i64 k') ∧ W.cell? ⟨g + 1, 1, none⟩ = some (.string (st t')) ∧ W.cell? ⟨g + 1, 2, none⟩ = some (.slice ko' kl'.length kc') ∧ W.cell? ⟨g + 1, 3, none⟩ = some (.slice o' is'.length c')) ∧ (W.cell? ⟨gx, 0, none⟩ = some (.int .i64 xk) ∧ W.cell? ⟨gx, 1, none⟩ = some (.string (st xt)) ∧ W.cell? ⟨gx, 2, none⟩ = some (.slice xko xkl.length xkc) ∧ W.cell? ⟨gx, 3, none⟩ = some (.slice xo xis.length xc)) ∧ (W.cell? ⟨gy, 0, none⟩ = some (.int .i64 yk) ∧ W.cell? ⟨gy, 1, none⟩ = some (.string (st yt)) ∧ W.cell? ⟨gy, 2, none⟩ = some (.slice yko ykl.length ykc) ∧ W.cell? ⟨gy, 3, none⟩ = some (.slice yo yis.length yc)))) := hq (fun W h => by
    subst hCA hCB hCX hCY
    exact ⟨four_cells h.a, four_cells h.b, four_cells h.x, four_cells h.y⟩)
  have HSAB : Hq (sameM X.m Y.m = true ↔ xs.m = ys.m) := hq (by rw [sameM_iff HOPX.o HOPY.o, HXM.o, HYM.o])
  obtain ⟨sab, hsab⟩ : ∃ s, s = sameM X.m Y.m := ⟨_, rfl⟩
  have HSAME : Hq (∀ V A B r, ((A = Value.agg CX ∧ B = .agg CA ∧ r = true) ∨ (A = Value.agg CA ∧ B = .agg CB ∧ r = sab)) → Pz w g gx gy CA CB CX CY xs ys V → Calls Tryz.prog 37 #[A, B] V (BPost r V)) := hq (fun V A B r h hP => by
    rcases h with ⟨rfl, rfl, rfl⟩ | ⟨rfl, rfl, rfl⟩
    · have := vSame_any xs X V (HE.o.grow hP.lo) hP.fx (HNX'.o V hP.lo)
      rw [HVXS.o, HVX.o, HXM.o, same_sort HOPX.o] at this
      exact this
    · have := vSame_any X Y V (HE.o.grow hP.lo) (HNX'.o V hP.lo) (HNY'.o V hP.lo)
      rw [HVX.o, HVY.o, ← hsab] at this
      exact this)
  have HSORT : Hq (∀ V, Pz w g gx gy CA CB CX CY xs ys V → Calls Tryz.prog 33 #[.agg CX] V (SrtM xs.m V)) := hq (fun V hP => by
    have := HSO.o V (.agg CX) xs (.inr (.inr ⟨hP.fx, by rw [HXM.o]; exact open_sort HOPX.o⟩)) (by rw [HVXS.o]) hP.lo
    rw [show sortV xs.m = xs.m by rw [HXM.o]; exact sortV_idem _ (open_good HOPX.o).1] at this
    refine this.mono ?_
    rintro e V' ⟨y, rfl, ho, hm, hb⟩
    exact ⟨y.v, rfl, hq ⟨y, rfl, ho.ok (by rw [hm, HXM.o]; exact rng_sort HRX.o), hm⟩, hb⟩)
  have HCOPY : Hq (∀ V, Pz w g gx gy CA CB CX CY xs ys V → Calls Tryz.prog 34 #[.agg CA] V (SrtM X.m V)) := hq (fun V hP => by
    have := vCopy_any X V (HE.o.grow hP.lo) (HNX'.o V hP.lo)
    rw [if_pos HOPX.o, HVX.o] at this
    refine this.mono ?_
    rintro e V' ⟨y, rfl, ho, hm, hb⟩
    exact ⟨y.v, rfl, hq ⟨y, rfl, ho.ok (by rw [hm]; exact HRX.o), hm⟩, hb⟩)
  have HEQ : Hq (∀ V A B r, ((Hq (IsM xs.m A V) ∧ B = Value.agg CX ∧ r = true) ∨ (A = Value.agg CX ∧ B = .agg CY ∧ r = sab) ∨ (Hq (IsM X.m A V) ∧ B = .agg CA ∧ r = true)) → Pz w g gx gy CA CB CX CY xs ys V → Calls Tryz.prog 19 #[A, B] V (BPost r V)) := hq (fun V A B r h hP => by
    have ix : IsM xs.m (.agg CX) V := ⟨xs, by rw [HVXS.o], hP.fx.ok, rfl⟩
    have iy : IsM ys.m (.agg CY) V := ⟨ys, by rw [HVYS.o], hP.fy.ok, rfl⟩
    have ia : IsM X.m (.agg CA) V := ⟨X, by rw [HVX.o], (HNX'.o V hP.lo).ok, rfl⟩
    rcases h with ⟨hA, rfl, rfl⟩ | ⟨rfl, rfl, rfl⟩ | ⟨hA, rfl, rfl⟩
    · exact equalM_any hA.o ix ⟨fun _ => rfl, fun _ => rfl⟩
    · exact equalM_any ix iy (by rw [hsab]; exact HSAB.o)
    · exact equalM_any hA.o ia ⟨fun _ => rfl, fun _ => rfl⟩)
  obtain ⟨s, hs⟩ : ∃ s : Int, s = (X.m.size : Int) := ⟨_, rfl⟩
  obtain ⟨d, hd⟩ : ∃ d : Int, d = (X.m.depth : Int) := ⟨_, rfl⟩
  have HSIZE : Hq (∀ V A, (A = Value.agg CX ∨ A = .agg CA) → Pz w g gx gy CA CB CX CY xs ys V → Calls Tryz.prog 25 #[A] V (IPost s V)) := hq (fun V A h hP => by
    have hz := HZ.o
    rcases h with rfl | rfl
    · have := vsize_any xs V hP.fx.ok (by rw [HXM.o, sort_size _ (open_good HOPX.o).1]; omega)
      rw [HVXS.o, HXM.o, sort_size _ (open_good HOPX.o).1, ← hs] at this
      exact this
    · have := vsize_any X V (HNX'.o V hP.lo).ok (by omega)
      rw [HVX.o, ← hs] at this
      exact this)
  have HDEPTH : Hq (∀ V A, (A = Value.agg CX ∨ A = .agg CA) → Pz w g gx gy CA CB CX CY xs ys V → Calls Tryz.prog 27 #[A] V (IPost d V)) := hq (fun V A h hP => by
    have hz := HZ.o
    rcases h with rfl | rfl
    · have := vdepth_any xs V hP.fx.ok (by rw [HXM.o, sort_size _ (open_good HOPX.o).1]; omega)
      rw [HVXS.o, HXM.o, sort_depth _ (open_good HOPX.o).1, ← hd] at this
      exact this
    · have := vdepth_any X V (HNX'.o V hP.lo).ok (by omega)
      rw [HVX.o, ← hd] at this
      exact this)
  clear HSO HNX' HNY' HE HRX HRY HZ HOPX HOPY HVX HVY HVXS HVYS HXM HYM hs hd hsab HSAB
  have hr1 : (sab == sab) = true := beq_self_eq_true _
  have hr2 : (s == s) = true := beq_self_eq_true _
  have hr3 : (d == d) = true := beq_self_eq_true _
  subst hCA hCB hCX hCY
  go_region_held3 (fun W => Pz w g gx gy #[.int .i64 k, .string (st t), .slice ko kl.length kc, .slice o is.length c] #[.int .i64 k', .string (st t'), .slice ko' kl'.length kc', .slice o' is'.length c'] #[.int .i64 xk, .string (st xt), .slice xko xkl.length xkc, .slice xo xis.length xc] #[.int .i64 yk, .string (st yt), .slice yko ykl.length ykc, .slice yo yis.length yc] xs ys W ∧ ((W.cell? ⟨g, 0, none⟩ = some (.int .i64 k) ∧ W.cell? ⟨g, 1, none⟩ = some (.string (st t)) ∧ W.cell? ⟨g, 2, none⟩ = some (.slice ko kl.length kc) ∧ W.cell? ⟨g, 3, none⟩ = some (.slice o is.length c)) ∧ (W.cell? ⟨g + 1, 0, none⟩ = some (.int .i64 k') ∧ W.cell? ⟨g + 1, 1, none⟩ = some (.string (st t')) ∧ W.cell? ⟨g + 1, 2, none⟩ = some (.slice ko' kl'.length kc') ∧ W.cell? ⟨g + 1, 3, none⟩ = some (.slice o' is'.length c')) ∧ (W.cell? ⟨gx, 0, none⟩ = some (.int .i64 xk) ∧ W.cell? ⟨gx, 1, none⟩ = some (.string (st xt)) ∧ W.cell? ⟨gx, 2, none⟩ = some (.slice xko xkl.length xkc) ∧ W.cell? ⟨gx, 3, none⟩ = some (.slice xo xis.length xc)) ∧ (W.cell? ⟨gy, 0, none⟩ = some (.int .i64 yk) ∧ W.cell? ⟨gy, 1, none⟩ = some (.string (st yt)) ∧ W.cell? ⟨gy, 2, none⟩ = some (.slice yko ykl.length ykc) ∧ W.cell? ⟨gy, 3, none⟩ = some (.slice yo yis.length yc))))
    ((refine (fun h : Pz w g gx gy #[.int .i64 k, .string (st t), .slice ko kl.length kc, .slice o is.length c] #[.int .i64 k', .string (st t'), .slice ko' kl'.length kc', .slice o' is'.length c'] #[.int .i64 xk, .string (st xt), .slice xko xkl.length xkc, .slice xo xis.length xc] #[.int .i64 yk, .string (st yt), .slice yko ykl.length ykc, .slice yo yis.length yc] xs ys _ => ⟨h, HC4.o _ h⟩) ?_; first | exact hT1 | exact hT1.drew | exact hT2 | exact hT2.drew))
    (first
      | (go_at_call 37; (with_reducible refine (HSAME.o _ _ _ _ (by first | exact .inl ⟨rfl, rfl, rfl⟩ | exact .inr ⟨rfl, rfl, rfl⟩) (And.left (by assumption))).mono ?_); rintro e v ⟨rfl, hb2⟩; have hT2 := Pz.grow (And.left (by assumption)) hb2)
      | (go_at_call 33; (with_reducible refine (HSORT.o _ (And.left (by assumption))).mono ?_); rintro e v ⟨a, rfl, HIX, hb2⟩; have hT2 := Pz.grow (And.left (by assumption)) hb2)
      | (go_at_call 34; (with_reducible refine (HCOPY.o _ (And.left (by assumption))).mono ?_); rintro e v ⟨a, rfl, HIC, hb2⟩; have hT2 := Pz.grow (And.left (by assumption)) hb2)
      | (go_at_call 19; (with_reducible refine (HEQ.o _ _ _ _ (by first | exact .inr (.inl ⟨rfl, rfl, rfl⟩) | exact .inl ⟨HIX, rfl, rfl⟩ | exact .inr (.inr ⟨HIC, rfl, rfl⟩)) (And.left (by assumption))).mono ?_); rintro e v ⟨rfl, hb2⟩; have hT2 := Pz.grow (And.left (by assumption)) hb2)
      | (go_at_call 25; (with_reducible refine (HSIZE.o _ _ (by first | exact .inl rfl | exact .inr rfl) (And.left (by assumption))).mono ?_); rintro e v ⟨rfl, hb2⟩; have hT2 := Pz.grow (And.left (by assumption)) hb2)
      | (go_at_call 27; (with_reducible refine (HDEPTH.o _ _ (by first | exact .inl rfl | exact .inr rfl) (And.left (by assumption))).mono ?_); rintro e v ⟨rfl, hb2⟩; have hT2 := Pz.grow (And.left (by assumption)) hb2))
  all_goals
    have HV := hq (HP.o _ hT2.lo)
    clear HP HC4 HSAME HSORT HCOPY HEQ HSIZE HDEPTH
    go_wp2_with fail
    exact HV.o
end Go.Proofs.YtfibmmmbpfnccaaGreatDoor
