/-
  WALK: the law PointerWalks.
-/
import Derived.Test.YtabfojdieegklaaGreatDoorPx2
import Derived.Test.YtabfojdieegklaaGreatDoorVuL
import Derived.Test.YtabfojdieegklaaGreatDoorVsC
import Derived.Deep.CutRange
namespace Go.Proofs.YtabfojdieegklaaGreatDoor
open Go.RowKit

/-! ### a path in two parts -/
theorem pget_app : ∀ (p q : List Bs) (v : Vl), pgetM (p ++ q) v = (pgetM p v).bind (pgetM q)
  | [], q, v => rfl
  | s :: p, q, v => by
    rw [List.cons_append, pgetM, pgetM]
    split
    · cases hx : v.is[(belowM v s).1.toNat]? with
      | none => rfl
      | some z => exact pget_app p q z
    · rfl
theorem pget_all {P : Vl → Prop} : ∀ (p : List Bs) (v z : Vl), pgetM p v = some z → v.All P → z.All P
  | [], v, z, h, ha => by rw [← Option.some.inj h]; exact ha
  | s :: p, v, z, h, ha => by
    rw [pgetM] at h
    split at h
    · split at h
      · rename_i y hy
        obtain ⟨k, t, ks, is⟩ := v
        exact pget_all p y z h (ha.items y (List.mem_of_getElem? hy))
      · cases h
    · cases h
theorem pget_size : ∀ (p : List Bs) (v z : Vl), pgetM p v = some z → z.size ≤ v.size
  | [], v, z, h => by rw [← Option.some.inj h]; exact Nat.le_refl _
  | s :: p, v, z, h => by
    rw [pgetM] at h
    split at h
    · split at h
      · rename_i y hy
        obtain ⟨k, t, ks, is⟩ := v
        have h1 := pget_size p y z h
        have h2 := size_item (List.mem_of_getElem? hy : y ∈ is)
        simp only [Vl.size]; omega
      · cases h
    · cases h
theorem pget_open : ∀ (p : List Bs) (v z : Vl), pgetM p v = some z → openM v = true → openM z = true
  | [], v, z, h, ho => by rw [← Option.some.inj h]; exact ho
  | s :: p, v, z, h, ho => by
    rw [pgetM] at h
    split at h
    · split at h
      · rename_i y hy
        obtain ⟨k, t, ks, is⟩ := v
        have hm : y ∈ is := List.mem_of_getElem? hy
        refine pget_open p y z h ?_
        obtain ⟨h1, h2, h3⟩ := open_good ho
        have h4 := size_item hm
        have h5 := depth_item (k := k) (t := t) (ks := ks) hm
        unfold openM
        simp only [Bool.and_eq_true, decide_eq_true_eq]
        simp only [Vl.size] at h2
        exact ⟨by omega, by omega, h1.items y hm⟩
      · cases h
    · cases h
theorem pgood_app {p q : List Bs} (h : p.length + q.length ≤ 64) : pgoodB (p ++ q) = (pgoodB p && pgoodB q) := by
  unfold pgoodB
  rw [List.all_append, List.length_append, decide_eq_true (by omega), decide_eq_true (by omega), decide_eq_true (by omega)]
  simp
theorem pfind_some {v z : Vl} {p : List Bs} (h : pfindM v p = some z) : pgoodB p = true ∧ openM v = true ∧ pgetM p v = some z := by
  unfold pfindM at h
  split at h
  · rename_i h1; exact ⟨h1.1, h1.2, h⟩
  · cases h
theorem pfind_app {v : Vl} {p q : List Bs} (h : p.length + q.length ≤ 64) : pfindM v (p ++ q) = (pfindM v p).bind (fun z => pfindM z q) := by
  cases hp : pfindM v p with
  | some z =>
    obtain ⟨h1, h2, h3⟩ := pfind_some hp
    show pfindM v (p ++ q) = pfindM z q
    unfold pfindM
    rw [pgood_app h, h1, h2, pget_open p v z h3 h2, pget_app, h3]
    simp
  | none =>
    show pfindM v (p ++ q) = none
    unfold pfindM at hp ⊢
    rw [pgood_app h]
    by_cases h1 : pgoodB p = true ∧ openM v = true
    · rw [if_pos h1] at hp
      split
      · rw [pget_app, hp]; rfl
      · rfl
    · rw [if_neg (fun h2 => h1 ⟨by have := h2.1; rw [Bool.and_eq_true] at this; exact this.1, h2.2⟩)]
theorem pfind_all {P : Vl → Prop} {v : Vl} {p : List Bs} (hv : v.All P) (hz : zeroL.All P) : ((pfindM v p).getD zeroL).All P := by
  cases h : pfindM v p with
  | none => exact hz
  | some z => exact pget_all p v z (pfind_some h).2.2 hv
theorem pfind_size {v : Vl} {p : List Bs} : ((pfindM v p).getD zeroL).size ≤ v.size := by
  cases h : pfindM v p with
  | none =>
    show 1 ≤ _
    cases v; simp only [Vl.size]; omega
  | some z => exact pget_size p v z (pfind_some h).2.2
theorem zeroL_lim : zeroL.All Lim := .mk _ _ _ _ ⟨Nat.zero_le _, fun x hx => by cases hx⟩ (fun x hx => by cases hx)
theorem zeroL_rng : zeroL.All Vl.Rng := .mk _ _ _ _ ⟨by decide, Nat.zero_le _, fun x hx => by cases hx⟩ (fun x hx => by cases hx)
/-- what Find answers of a tree that can be read, can be read -/
theorem find_fine {x y : Vt} {w w' : World} {p : List Bs} {B : Nat} (hx : Fine x w) (hy : y.Own 37 9 B (fun _ => True) w') (hm : y.m = (pfindM x.m p).getD zeroL) : Fine y w' :=
  ⟨hy.ok (by rw [hm]; exact pfind_all hx.ok.rng zeroL_rng), by rw [hm]; exact pfind_all hx.lim zeroL_lim, by rw [hm]; exact Nat.le_trans pfind_size hx.sz⟩
/-! ### a row appended to one of the call's own -/
theorem step_appW {ops : Array Oper} {op : Oper} {a : Act} {w : World} {K : Act → World → Prop} {Q : Exit → Act → World → Prop} {E : Prop} (hgd : op.guard = none) (s x : Operand)
    (ho : op.op = .call { callee := .builtin .append, args := #[s, x], argTypes := #[22, 22] })
    {B : Nat} (hB : B ≤ w.heap.size) {v : Value} {L : List Bs} (hs : a.eval s = v) (hown : w.ownsRow B 9 1 v L.length (strC L)) {o : Option Addr} {cap : Nat} {r : List Bs} (hr : (⟨o, cap, r⟩ : SRow).ok w) (hc : o = none → cap = 0) (hx : a.eval x = .slice o r.length cap)
    {M : List Bs} (hM : L ++ r = M) (h63 : L.length + r.length ≤ 1000000)
    (hK : ∀ o' c' w', w'.ownsRow B 9 1 (.slice o' M.length c') M.length (strC M) → Below B w w' → (∀ g cs, Whole w g 37 cs → Whole w' g 37 cs) → K (a.put op.dst (.slice o' M.length c')) w') : if Region.wanted op (yielded ops a.tmps) = true then Oper.wp Tryz.prog op a w K Q else E := by
  rw [if_pos (by simp [Region.wanted, hgd])]
  obtain ⟨i0, hi, hz0, hz1, hz2⟩ := info_partsV infoSv
  have hlen : L.length + r.length = M.length := by rw [← hM, List.length_append]
  have hV : strC L ++ strC r = strC M := by rw [← hM]; unfold strC; rw [List.map_append]
  have h1 : ∀ u ∈ strC r, u.oneCell' = true := fun u hu => by
    unfold strC at hu
    obtain ⟨y, _, rfl⟩ := List.mem_map.1 hu
    rfl
  have fin : ∀ v' w', w'.ownsRow B 9 1 v' (L.length + r.length) (strC L ++ strC r) → w.grownBy w' v.ownBlock → K (a.put op.dst v') w' := fun v' w' h2 h3 => by
    rw [hlen, hV] at h2
    obtain ⟨o', c', rfl⟩ := row_shapeV h2
    refine hK o' c' w' h2 ((Below.refl _ _).grown h3 hB (fun k e => (hown.lt k e).1)) (fun g cs hg => whole_grownV hg h3 (fun e => ?_))
    obtain ⟨cur, hcur⟩ := ownT' hown g e.symm
    rw [show w.heap[g]? = _ from hg] at hcur
    cases hcur
  cases o with
  | none =>
    have h0 := hc rfl
    have hl0 : r.length = 0 := by have := hr.le; simp only at this; omega
    have hnil : r = [] := List.eq_nil_of_length_eq_zero hl0
    rw [h0, hl0] at hx
    have hrun := run_append_owned_none (P := Tryz.prog) (w := w) B 22 op.type 9 i0 1 Tryz.underlying22 hi v L.length (strC L) hown
    have hf := fin v w (by
      rw [hnil]
      show w.ownsRow B 9 1 v L.length (strC L ++ [])
      rw [List.append_nil]
      exact hown) ⟨rfl, rfl, rfl, Nat.le_refl _, fun _ _ _ => rfl⟩
    unfold Oper.wp
    simp [execOp, ho, resolve, invoke, builtin, hs, hx, hrun, Result.andThen]
    exact hf
  | some ad =>
    have hcap := hr.cp
    simp only at hcap
    exact wp_append_own w s x _ ho B 9 i0 (.string ⟨#[]⟩) 1 16 Tryz.underlying22 hi hz0 hz1 hz2 rfl (by decide) v L.length (strC L) hs hown ad r.length cap (strC r) hx (by unfold strC; rw [List.length_map, Nat.mul_one]) (strsIn_strC hr.rd rfl) h1 (by unfold maxLen; omega) (by omega) hB (fun v' w' h2 h3 _ => fin v' w' h2 h3)
theorem whole_madeG {w : World} {g : Nat} {T : TypeId} {cs : Array Value} (h : w.heap.size = g) : Whole (w.alloc (.cells cs T)) g T cs := h ▸ Whole.made w T cs
theorem cutW {V W : World} {G : Prop} (hb : Below V.heap.size V W) (g : Nat) {cs : Array Value} (h : Whole V g 37 cs) (k : Whole W g 37 cs ∧ g < V.heap.size → G) : G := k ⟨h.grow hb, h.lt⟩
theorem fine_put4 {u : Vt} {W : World} {B g : Nat} (hf : Fine u W) (ho : u.Own 37 9 B (fun _ => True) W) (hg : g < B) (a b c d : Value) : Fine u ((((W.setCell ⟨g, 0, none⟩ a).setCell ⟨g, 1, none⟩ b).setCell ⟨g, 2, none⟩ c).setCell ⟨g, 3, none⟩ d) :=
  ⟨(own_put4 ho hg a b c d).ok hf.ok.rng, hf.lim, hf.sz⟩
theorem u_mk {uk : Int} {ut : Bs} {ukc : Nat} {uko : Option Addr} {ukl : List Bs} {uo : Option Addr} {uc : Nat} {uis : List Vt} {G : Vt → Prop} (h : G (Vt.mk uk ut ⟨uko, ukc, ukl⟩ uo uc uis)) : G (Vt.mk uk ut ⟨uko, ukc, ukl⟩ uo uc uis) := h
theorem sz_drewL (w : World) : w.drew.heap.size = w.heap.size := rfl
theorem own_drew {w : World} {B e size n : Nat} {v : Value} {xs : List Value} (h : w.ownsRow B e size v n xs) : w.drew.ownsRow B e size v n xs := h
theorem four_free {W : World} {g : Nat} {T : TypeId} {cs : Array Value} (h : Whole W g T cs) : W.frozen? ⟨g, 0, none⟩ = false ∧ W.frozen? ⟨g, 1, none⟩ = false ∧ W.frozen? ⟨g, 2, none⟩ = false ∧ W.frozen? ⟨g, 3, none⟩ = false := ⟨h.free 0, h.free 1, h.free 2, h.free 3⟩
set_option maxHeartbeats 16000000 in
set_option maxRecDepth 1000000 in
theorem pwalks_any (x : Vt) (po qo : Option Addr) (pc qc : Nat) (p q : List Bs) (w : World) (hE : Env w) (hM : mx w) (hx : x.Ok w) (hp : (⟨po, pc, p⟩ : SRow).ok w) (hq' : (⟨qo, qc, q⟩ : SRow).ok w) (hpt : Room p) (hqt : Room q) (hqn : qo = none → qc = 0) :
    Calls Tryz.prog 8 #[x.v, .slice po p.length pc, .slice qo q.length qc] w (BPost true w) := by
  have HSM := hq (fun V (hV : Below w.heap.size w V) => (smallP_any V (hE.grow hV) (mx_grow hM hV)).mono (R' := fun e w' => e = .returned (.bool true) ∧ Below V.heap.size V w') (fun e w' h => h))
  have HFX := hq (fun V (hV : Below w.heap.size w V) => few1_any x 300 V (hx.grow hV) (by decide))
  have HSP := hq (fun V (hV : Below w.heap.size w V) => short_any po pc p V hp.le hp.cp (hp.grow hV).rd hpt)
  have HSQ := hq (fun V (hV : Below w.heap.size w V) => short_any qo qc q V hq'.le hq'.cp (hq'.grow hV).rd hqt)
  have HFI : Hq (FewV x.m 300 → ∀ V, Below w.heap.size w V → ∀ (o : Option Addr) (c : Nat) (l : List Bs), (⟨o, c, l⟩ : SRow).ok V → Room l → Calls Tryz.prog 29 #[x.v, .slice o l.length c] V (fun e W' => ∃ y : Vt, e = .returned (.tuple #[y.v, .bool (pfindM x.m l).isSome]) ∧ (Fine y W' ∧ y.m = (pfindM x.m l).getD zeroL ∧ y.Own 37 9 V.heap.size (fun _ => True) W') ∧ Below V.heap.size V W')) := hq (fun hf V hV o c l hl hlt => (pFind_any x o c l V (hE.grow hV) (few_fine (hx.grow hV) hf (by decide)) hl hlt).mono (fun e W' ⟨y, h1, h2, h3, h4⟩ => ⟨y, h1, ⟨find_fine (few_fine (hx.grow hV) hf (by decide)) h2 h3, h3, h2⟩, h4⟩))
  have HFY : Hq (∀ (y : Vt) V, Fine y V → Below w.heap.size w V → Calls Tryz.prog 29 #[y.v, .slice qo q.length qc] V (fun e W' => ∃ z : Vt, e = .returned (.tuple #[z.v, .bool (pfindM y.m q).isSome]) ∧ (Fine z W' ∧ z.m = (pfindM y.m q).getD zeroL) ∧ Below V.heap.size V W')) := hq (fun y V hy hV => (pFind_any y qo qc q V (hE.grow hV) hy (hq'.grow hV) hqt).mono (fun e W' ⟨z, h1, h2, h3, h4⟩ => ⟨z, h1, ⟨find_fine hy h2 h3, h3⟩, h4⟩))
  have HPG := hq (fun V (hV : Below w.heap.size w V) => hp.grow hV)
  have HQG := hq (fun V (hV : Below w.heap.size w V) => hq'.grow hV)
  have HRM := hq (show Room (p ++ q) from fun z hz => (List.mem_append.1 hz).elim (hpt z) (hqt z))
  have HQN := hq hqn
  have HEQ := hq (fun (h : p.length + q.length ≤ 64) => pfind_app (v := x.m) (p := p) (q := q) h)
  have HP : Hq (∀ W', Below w.heap.size w W' → BPost true w (.returned (.bool true)) W') := hq (fun W' h => ⟨rfl, h⟩)
  generalize BPost true w = PP at *
  have hpl : p.length ≤ pc := hp.le
  have hpcp : pc ≤ maxLen := hp.cp
  have hql : q.length ≤ qc := hq'.le
  have hqcp : qc ≤ maxLen := hq'.cp
  unfold maxLen at hpcp hqcp
  clear hE hM hx hp hq' hpt hqt hqn
  obtain ⟨k, t, ⟨ko, kc, kl⟩, o, c, is⟩ := x
  rw [Vt.v_mk'] at *
  generalize (Vt.mk k t ⟨ko, kc, kl⟩ o c is).m = X at *
  have HB0 := hq (below_alloc w (.cells #[.int .i64 k, .string (st t), .slice ko kl.length kc, .slice o is.length c] 37))
  have HW0 := hq (Whole.made w 37 #[.int .i64 k, .string (st t), .slice ko kl.length kc, .slice o is.length c])
  go_enter Tryz.func8, Tryz.ntmps8
  go_upto_region 1 with fail
  generalize w.heap.size = g0 at HW0
  generalize (w.alloc (.cells #[.int .i64 k, .string (st t), .slice ko kl.length kc, .slice o is.length c] 37)) = V0 at *
  have HC0 := hq (fun V (hV : Below V0.heap.size V0 V) => four_cells (HW0.o.grow hV))
  clear HW0
  have HC := HSM.o V0 HB0.o
  clear HSM
  go_wp2_with fail
  refine HC.mono ?_
  rintro e w1 ⟨rfl, hb1⟩
  have HV1 := hq hb1
  have HB1 := hq (below_trans HB0.o hb1)
  clear HC hb1 HB0
  obtain ⟨c0, c1, c2, c3⟩ := HC0.o w1 HV1.o
  go_wp2_with fail
  refine (HFX.o w1 HB1.o).mono ?_
  rintro e w2 ⟨fx, rfl, hfx, hb2⟩
  have HHX := hq hfx
  have HV2 := hq (below_trans HV1.o hb2)
  have HB2 := hq (below_trans HB1.o hb2)
  clear hb2 hfx HFX c0 c1 c2 c3 HV1 HB1
  cases fx with
  | false =>
    have HV := hq (HP.o w2 HB2.o)
    clear HSP HSQ HFI HFY HPG HQG HRM HEQ HP HC0
    go_wp2_with fail
    exact HV.o
  | true =>
  have HFI2 := hq (HFI.o (HHX.o rfl))
  clear HFI HHX
  go_wp2_with fail
  refine (HSP.o w2 HB2.o).mono ?_
  rintro e w3 ⟨⟨vp, rfl, hvp⟩, hw3⟩
  obtain rfl := hw3.symm
  clear hw3
  have HVP := hq hvp
  clear HSP hvp
  cases vp with
  | false =>
    have HV := hq (HP.o w2 HB2.o)
    clear HSQ HFI2 HFY HPG HQG HRM HEQ HP HC0
    go_wp2_with fail
    exact HV.o
  | true =>
  go_wp2_with fail
  refine (HSQ.o w2 HB2.o).mono ?_
  rintro e w4 ⟨⟨vq, rfl, hvq⟩, hw4⟩
  obtain rfl := hw4.symm
  have HVQ := hq hvq
  clear hw4 hvq HSQ
  cases vq with
  | false =>
    have HV := hq (HP.o w2 HB2.o)
    clear HFI2 HFY HPG HQG HRM HEQ HP HC0
    go_wp2_with fail
    exact HV.o
  | true =>
  have hp200 := (show ShortL p from by first | exact HVP.o rfl | exact HVP.o trivial).len
  have hq200 := (show ShortL q from by first | exact HVQ.o rfl | exact HVQ.o trivial).len
  have hwr : wrap64 ((p.length : Int) + (q.length : Int)) = (p.length : Int) + (q.length : Int) := by unfold wrap64; omega
  clear HVP HVQ
  by_cases h64 : 64 < p.length + q.length
  · have h64z : (64 : Int) < (p.length : Int) + (q.length : Int) := by omega
    have HV := hq (HP.o w2 HB2.o)
    clear HFI2 HFY HPG HQG HRM HEQ HP HC0
    go_wp2_with fail
    exact HV.o
  have h64z : ¬ (64 : Int) < (p.length : Int) + (q.length : Int) := by omega
  have HAP := hq (HEQ.o (by omega))
  have hpq : p.length + q.length ≤ 64 := by omega
  clear HEQ h64
  obtain ⟨c0, c1, c2, c3⟩ := HC0.o w2 HV2.o
  go_wp2_with fail
  have HC := HFI2.o w2 HB2.o po pc p (HPG.o w2 HB2.o) (fun z hz => HRM.o z (List.mem_append_left _ hz))
  generalize hr1 : pfindM X p = r1 at HC HAP
  refine HC.mono ?_
  rintro e w5 ⟨y, rfl, ⟨hyf, hym, _⟩, hb5⟩
  have HYF := hq hyf
  have HYM := hq hym
  have HV5 := hq (below_trans HV2.o hb5)
  have HB5 := hq (below_trans HB2.o hb5)
  clear HC hb5 hyf hym c0 c1 c2 c3 HV2 HB2 hr1
  have HCY := hq (fun V (hV : Fine y V) => HFY.o y V hV)
  obtain ⟨yk, yt, ⟨yko, ykc, ykl⟩, yo, yc, yis⟩ := y
  rw [Vt.v_mk'] at *
  have HW5 := hq (Whole.made w5 37 #[.int .i64 yk, .string (st yt), .slice yko ykl.length ykc, .slice yo yis.length yc])
  have HV6 := hq (below_trans HV5.o (below_alloc w5 (.cells #[.int .i64 yk, .string (st yt), .slice yko ykl.length ykc, .slice yo yis.length yc] 37)))
  have HB6 := hq (below_trans HB5.o (below_alloc w5 (.cells #[.int .i64 yk, .string (st yt), .slice yko ykl.length ykc, .slice yo yis.length yc] 37)))
  have HYG := hq (HYF.o.grow (below_alloc w5 (.cells #[.int .i64 yk, .string (st yt), .slice yko ykl.length ykc, .slice yo yis.length yc] 37)))
  generalize (Vt.mk yk yt ⟨yko, ykc, ykl⟩ yo yc yis) = Y at *
  obtain ⟨c0, c1, c2, c3⟩ := four_cells HW5.o
  go_upto_region 6 with fail
  generalize w5.heap.size = g5 at *
  generalize (w5.alloc (.cells #[.int .i64 yk, .string (st yt), .slice yko ykl.length ykc, .slice yo yis.length yc] 37)) = V6 at *
  have HC := HCY.o V6 HYG.o HB6.o
  go_wp2_with fail
  refine HC.mono ?_
  rintro e w6 ⟨z, rfl, ⟨hzf, hzm⟩, hb6⟩
  have HZF := hq hzf
  have HZM := hq hzm
  have HV7 := hq (below_trans HV6.o hb6)
  have HB7 := hq (below_trans HB6.o hb6)
  clear HC hb6 hzf hzm c0 c1 c2 c3 HV5 HB5 HV6 HB6 HCY HYF HYG HFY HW5
  obtain ⟨zk, zt, ⟨zko, zkc, zkl⟩, zo, zc, zis⟩ := z
  rw [Vt.v_mk'] at *
  have HEQZ := hq (fun (u : Vt) V (hZ : (Vt.mk zk zt ⟨zko, zkc, zkl⟩ zo zc zis).Ok V) (hu : u.Ok V) => equal_any (Vt.mk zk zt ⟨zko, zkc, zkl⟩ zo zc zis) u V hZ hu)
  rw [Vt.v_mk'] at HEQZ
  have HW6 := hq (Whole.made w6 37 #[.int .i64 zk, .string (st zt), .slice zko zkl.length zkc, .slice zo zis.length zc])
  have HV8 := hq (below_trans HV7.o (below_alloc w6 (.cells #[.int .i64 zk, .string (st zt), .slice zko zkl.length zkc, .slice zo zis.length zc] 37)))
  have HB8 := hq (below_trans HB7.o (below_alloc w6 (.cells #[.int .i64 zk, .string (st zt), .slice zko zkl.length zkc, .slice zo zis.length zc] 37)))
  have HZG := hq (HZF.o.grow (below_alloc w6 (.cells #[.int .i64 zk, .string (st zt), .slice zko zkl.length zkc, .slice zo zis.length zc] 37)))
  go_upto_region 7 with fail
  generalize (Vt.mk zk zt ⟨zko, zkc, zkl⟩ zo zc zis) = Z at *
  generalize w6.heap.size = g6 at *
  generalize (w6.alloc (.cells #[.int .i64 zk, .string (st zt), .slice zko zkl.length zkc, .slice zo zis.length zc] 37)) = V7 at *
  clear HV7 HB7 HZF
  obtain ⟨M, hMM⟩ : ∃ M, p ++ q = M := ⟨_, rfl⟩
  have hpl64 : p.length ≤ 1000000 := by omega
  have hpq64 : p.length + q.length ≤ 1000000 := by omega
  rw [hMM] at HAP HRM
  have HMM := hq hMM
  clear hMM
  have HCX := hq (fun W (hW : Below V7.heap.size V7 W) => HC0.o W (below_trans HV8.o hW))
  have HPG7 := hq (fun W (hW : Below V7.heap.size V7 W) => HPG.o W (below_trans HB8.o hW))
  have HQG7 := hq (fun W (hW : Below V7.heap.size V7 W) => HQG.o W (below_trans HB8.o hW))
  have HFI7 := hq (fun W (hW : Below V7.heap.size V7 W) (o : Option Addr) (c : Nat) (hl : SRow.ok W ⟨o, c, M⟩) => HFI2.o W (below_trans HB8.o hW) o c M hl HRM.o)
  generalize pfindM X M = r3 at *
  have hT0 : Below V7.heap.size V7 V7 := Below.refl _ _
  obtain ⟨c0, c1, c2, c3⟩ := HCX.o V7 hT0
  have hS0 := And.intro hT0 (HCX.o V7 hT0)
  clear HC0 HPG HQG HFI2 HV8 HRM
  go_cut [13, 14] from 49 to 59 (fun a b wx => b = .bool r3.isSome ∧ ∃ (gz : Nat) (u : Vt), a = .pointer (some ⟨gz, 0, none⟩) ∧ Hq (Whole wx gz 37 #[.int .i64 u.k, .string (st u.t), u.ks.v, u.row] ∧ Fine u wx ∧ u.m = r3.getD zeroL ∧ Below V7.heap.size V7 wx))
  case first =>
    go_region_held3 (fun W => Below V7.heap.size V7 W ∧ (W.cell? ⟨g0, 0, none⟩ = some (.int .i64 k) ∧ W.cell? ⟨g0, 1, none⟩ = some (.string (st t)) ∧ W.cell? ⟨g0, 2, none⟩ = some (.slice ko kl.length kc) ∧ W.cell? ⟨g0, 3, none⟩ = some (.slice o is.length c)))
      ((refine (fun h : Below V7.heap.size V7 _ => ⟨h, HCX.o _ h⟩) ?_; repeat (with_reducible (first | assumption | exact Below.refl _ _ | refine Below.drew ?_ | refine below_trans ?_ (below_alloc _ _) | refine below_put ?_ hzs _ _))))
      ((first
        | (refine step_copyV rfl (.tmp 51) (.tmp 52) rfl (B := V7.heap.size) (g := V7.heap.size) (o := po) (cap := pc) (l := p) ?_ hpl64 (Nat.le_refl _) ?_ ?_ ?_ ?_ ?_; (focus (exact HPG7.o _ (And.left (by with_reducible assumption)))); (focus (exact Below.size (And.left (by with_reducible assumption)))); (focus ((repeat (with_reducible (first | assumption | refine P10 _ _ ?_ | refine P9 _ _ ?_ | refine P8 _ _ ?_ | refine whole_dr ?_ | (refine whole_madeG ?_; first | rfl | (simp only [World.size_alloc]; done)) | refine Whole.alloc ?_ _))); done)); (focus (first | rfl | (simp [Act.eval]; done))); (focus (first | rfl | (simp [Act.eval]; done))); intro o8 c8 w8 hown8 hb8; have hB8 := below_trans (And.left (by with_reducible assumption)) hb8; have P8 := fun g cs (h : Whole _ g 37 cs) => h.grow hb8)
        | (refine step_copyV rfl (.tmp 51) (.tmp 52) rfl (B := V7.heap.size) (g := V7.heap.size + 1) (o := po) (cap := pc) (l := p) ?_ hpl64 (Nat.le_succ _) ?_ ?_ ?_ ?_ ?_; (focus (exact HPG7.o _ (And.left (by with_reducible assumption)))); (focus (exact Below.size (And.left (by with_reducible assumption)))); (focus ((repeat (with_reducible (first | assumption | refine P10 _ _ ?_ | refine P9 _ _ ?_ | refine P8 _ _ ?_ | refine whole_dr ?_ | (refine whole_madeG ?_; first | rfl | (simp only [World.size_alloc]; done)) | refine Whole.alloc ?_ _))); done)); (focus (first | rfl | (simp [Act.eval]; done))); (focus (first | rfl | (simp [Act.eval]; done))); intro o8 c8 w8 hown8 hb8; have hB8 := below_trans (And.left (by with_reducible assumption)) hb8; have P8 := fun g cs (h : Whole _ g 37 cs) => h.grow hb8)
        | (refine step_appW rfl (.tmp 53) (.tmp 54) rfl (B := V7.heap.size) ?_ (v := .slice o8 p.length c8) (L := p) ?_ ?_ (o := qo) (cap := qc) (r := q) ?_ HQN.o ?_ (M := M) HMM.o hpq64 ?_; (focus (exact Below.size (And.left (by with_reducible assumption)))); (focus (first | rfl | (simp [Act.eval]; done))); (focus ((repeat (with_reducible (first | assumption | refine own_drew ?_ | refine World.ownsRow.alloc ?_ _))); done)); (focus (exact HQG7.o _ (And.left (by with_reducible assumption)))); (focus (first | rfl | (simp [Act.eval]; done))); intro o9 c9 w9 hown9 hb9 P9; have hB9 := Below.trans (And.left (by with_reducible assumption)) hb9; have HK9 : SRow.ok w9 ⟨o9, c9, M⟩ := own_keys (ks := ⟨o9, c9, M⟩) hown9)
        | (go_at_call 29; refine (HFI7.o _ (And.left (by with_reducible assumption)) o9 c9 (HK9.grow (by repeat (with_reducible (first | exact Below.refl _ _ | refine Below.drew ?_ | refine below_trans ?_ (below_alloc _ _)))))).mono ?_; rintro e w10 ⟨u, rfl, ⟨huf, hum, huo⟩, hb10⟩; have hB10 := below_trans (And.left (by with_reducible assumption)) hb10; have HUF := hq huf; have HUM := hq hum; have HUO := hq huo; clear huf hum huo; obtain ⟨uk, ut, ⟨uko, ukc, ukl⟩, uo, uc, uis⟩ := u; rw [Vt.v_mk']; (first | (refine cutW hb10 (V7.heap.size) (cs := #[.int .i64 0, .string ⟨#[]⟩, .slice none 0 0, .slice none 0 0]) ?_ (fun hzz => ?_); (focus ((repeat (with_reducible (first | assumption | refine P9 _ _ ?_ | refine P8 _ _ ?_ | refine whole_dr ?_ | (refine whole_madeG ?_; first | rfl | (simp only [World.size_alloc]; done)) | refine Whole.alloc ?_ _))); done)); have hz := hzz.1; have hzl := hzz.2; have hzs : V7.heap.size ≤ V7.heap.size := Nat.le_refl _; obtain ⟨z0, z1, z2, z3⟩ := four_cells hz; obtain ⟨z4, z5, z6, z7⟩ := four_free hz) | (refine cutW hb10 (V7.heap.size + 1) (cs := #[.int .i64 0, .string ⟨#[]⟩, .slice none 0 0, .slice none 0 0]) ?_ (fun hzz => ?_); (focus ((repeat (with_reducible (first | assumption | refine P9 _ _ ?_ | refine P8 _ _ ?_ | refine whole_dr ?_ | (refine whole_madeG ?_; first | rfl | (simp only [World.size_alloc]; done)) | refine Whole.alloc ?_ _))); done)); have hz := hzz.1; have hzl := hzz.2; have hzs : V7.heap.size ≤ V7.heap.size + 1 := Nat.le_succ _; obtain ⟨z0, z1, z2, z3⟩ := four_cells hz; obtain ⟨z4, z5, z6, z7⟩ := four_free hz) | (refine cutW hb10 (w8.heap.size) (cs := #[.int .i64 0, .string ⟨#[]⟩, .slice none 0 0, .slice none 0 0]) ?_ (fun hzz => ?_); (focus ((repeat (with_reducible (first | assumption | refine P9 _ _ ?_ | refine P8 _ _ ?_ | refine whole_dr ?_ | (refine whole_madeG ?_; first | rfl | (simp only [World.size_alloc]; done)) | refine Whole.alloc ?_ _))); done)); have hz := hzz.1; have hzl := hzz.2; have hzs : V7.heap.size ≤ w8.heap.size := hB8.size; obtain ⟨z0, z1, z2, z3⟩ := four_cells hz; obtain ⟨z4, z5, z6, z7⟩ := four_free hz) | (refine cutW hb10 (w9.heap.size) (cs := #[.int .i64 0, .string ⟨#[]⟩, .slice none 0 0, .slice none 0 0]) ?_ (fun hzz => ?_); (focus ((repeat (with_reducible (first | assumption | refine P9 _ _ ?_ | refine P8 _ _ ?_ | refine whole_dr ?_ | (refine whole_madeG ?_; first | rfl | (simp only [World.size_alloc]; done)) | refine Whole.alloc ?_ _))); done)); have hz := hzz.1; have hzl := hzz.2; have hzs : V7.heap.size ≤ w9.heap.size := hB9.size; obtain ⟨z0, z1, z2, z3⟩ := four_cells hz; obtain ⟨z4, z5, z6, z7⟩ := four_free hz) | skip))))
    all_goals
      go_wp2_with fail
      go_meet
    all_goals first
      | exact ⟨rfl, _, Vt.mk uk ut ⟨uko, ukc, ukl⟩ uo uc uis, rfl, hq ⟨whole_put4 hz _ _ _ _, fine_put4 HUF.o HUO.o hzl _ _ _ _, HUM.o, below_put4 hB10 hzs _ _ _ _⟩⟩
      | exact ⟨rfl, w10.heap.size, Vt.mk uk ut ⟨uko, ukc, ukl⟩ uo uc uis, rfl, hq ⟨Whole.made w10 _ _, HUF.o.grow (below_alloc w10 _), HUM.o, below_trans hB10 (below_alloc w10 _)⟩⟩
  case rest =>
    obtain ⟨rfl, gz, u, rfl, HU⟩ := hcut
    obtain ⟨uk, ut, ⟨uko, ukc, ukl⟩, uo, uc, uis⟩ := u
    have HCE := hq (HEQZ.o (Vt.mk uk ut ⟨uko, ukc, ukl⟩ uo uc uis) wc (HZG.o.grow HU.o.2.2.2).ok HU.o.2.1.ok)
    have HUM := hq HU.o.2.2.1
    rw [Vt.v_mk'] at HCE
    obtain ⟨d0, d1, d2, d3⟩ := four_cells (HW6.o.grow HU.o.2.2.2)
    obtain ⟨e0, e1, e2, e3⟩ := four_cells HU.o.1
    simp only [Vt.k, Vt.t, Vt.ks, SRow.v, Vt.row, Vt.o, Vt.is, Vt.c] at e0 e1 e2 e3
    have HV := hq (fun W' (h : Below wc.heap.size wc W') => HP.o W' (below_trans (below_trans HB8.o HU.o.2.2.2) h))
    generalize (Vt.mk uk ut ⟨uko, ukc, ukl⟩ uo uc uis).m = UM at *
    clear HU HZG HW6 HEQZ HP HB8 HCX HPG7 HQG7 HFI7 hT0 hS0 c0 c1 c2 c3 HMM HQN
    apply_assumption
    cases r1 with
    | none =>
      have h3 : r3 = none := HAP.o
      subst h3
      have HV2 := hq (HV.o _ (Below.refl _ _))
      clear HAP HYM HZM HUM HCE HV d0 d1 d2 d3 e0 e1 e2 e3
      go_wp2_with fail
      exact HV2.o
    | some a =>
      have h3 : r3 = pfindM a q := HAP.o
      have h4 : Y.m = a := HYM.o
      subst h4
      subst h3
      have hE : ∀ b : Bool, (b = true ↔ Z.m = UM) → b = true := fun b hb => hb.2 (by rw [HZM.o, HUM.o])
      have HE := hq hE
      unfold EqPost at HCE
      clear HAP HYM HZM HUM hE
      generalize (pfindM Y.m q).isSome = is2 at *
      go_wp2_with fail
      refine HCE.o.mono ?_
      rintro e w11 ⟨b, rfl, hb, hb11⟩
      have hbt := HE.o b hb
      subst hbt
      have HV2 := hq (HV.o _ hb11)
      clear HCE HE HV hb hb11
      go_wp2_with fail
      first | exact HV2.o | simpa using HV2.o
end Go.Proofs.YtabfojdieegklaaGreatDoor
