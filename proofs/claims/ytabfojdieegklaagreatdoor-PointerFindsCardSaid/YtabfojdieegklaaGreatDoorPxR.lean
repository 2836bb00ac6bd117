/-
  WALKS: the document's set and Set of paths.
-/
import Derived.Test.YtabfojdieegklaaGreatDoorPxQ
namespace Go.Proofs.YtabfojdieegklaaGreatDoor
open Go.RowKit

theorem srow_tail {w : World} {b f pc : Nat} {s : Bs} {r : List Bs} (h : (⟨some ⟨b, f, none⟩, pc, s :: r⟩ : SRow).ok w) : (⟨if pc = 1 then some ⟨b, f, none⟩ else some ⟨b, f + 1, none⟩, pc - 1, r⟩ : SRow).ok w := by
  have hl : r.length + 1 ≤ pc := h.le
  have hc : pc ≤ maxLen := h.cp
  refine ⟨by simp only; omega, by simp only; omega, fun i hi => ?_⟩
  simp only at hi ⊢
  obtain ⟨b', f', e, hcl⟩ := h.rd (i + 1) (by simp only [List.length_cons]; omega)
  simp only at e
  injection e with e
  injection e with e1 e2
  subst e1 e2
  rw [if_neg (by omega)]
  refine ⟨b, f + 1, rfl, ?_⟩
  rw [show f + 1 + i = f + (i + 1) by omega]
  simpa using hcl
theorem pset_cons {s : Bs} {r : List Bs} {k : Int} {t : Bs} {ks : List Bs} {is : List Vl} {i : Nat} {z u : Vl} (hi : (belowM (.mk k t ks is) s).1 = (i : Int)) (hz : is[i]? = some z) : psetM (s :: r) (.mk k t ks is) u = psetM [s] (.mk k t ks is) (psetM r z u) := by
  rw [psetM, psetM, hi]
  simp only [Vl.is, Int.toNat_natCast]
  rw [hz]
  rfl
theorem whole_some {W : World} {g : Nat} {T : TypeId} {cs : Array Value} (h : Whole W g T cs) {i : Nat} (hi : i < cs.size) : ∃ v, W.cell? ⟨g, i, none⟩ = some v := ⟨cs[i], by rw [h.at_ i]; exact Array.getElem?_eq_getElem hi⟩
theorem four3 {W : World} {g : Nat} {T : TypeId} {a b c d : Value} (h : Whole W g T #[a, b, c, d]) : W.cell? ⟨g, 3, none⟩ = some d := h.at_ 3
theorem ItemAt.four {W : World} {b p : Nat} {x : Vt} (h : ItemAt W b p x) : W.cell? ⟨b, p, none⟩ = some (.int .i64 x.k) ∧ W.cell? ⟨b, p + 1, none⟩ = some (.string (st x.t)) ∧ W.cell? ⟨b, p + 2, none⟩ = some x.ks.v ∧ W.cell? ⟨b, p + 3, none⟩ = some x.row := ⟨h.c0, h.c1, h.c2, h.c3⟩
set_option maxHeartbeats 16000000 in
set_option maxRecDepth 1000000 in
theorem rset7_any : ∀ (path : List Bs) (x u : Vt) (po : Option Addr) (pc : Nat) (w : World), x.Ok w → u.Ok w → x.m.weight ≤ 1000000 → u.m.weight ≤ 1000000 → (⟨po, pc, path⟩ : SRow).ok w → Room path → openM x.m = true → (pgetM path x.m).isSome = true →
    Calls Tryz.prog 71 #[x.v, .slice po path.length pc, u.v] w (RemPost (psetM path x.m u.m) w) := by
  intro path
  induction path with
  | nil =>
    intro x u po pc w hx hu hwx hwu hp _ _ _
    have HCU := hq (fun V (hV : Below w.heap.size w V) => clone_any u V (hu.grow hV) hwu)
    have hpc : pc ≤ maxLen := hp.cp
    unfold maxLen at hpc
    show Calls Tryz.prog 71 #[x.v, .slice po 0 pc, u.v] w (RemPost u.m w)
    have HP : Hq (∀ (y : Vt) W', y.Own 37 9 w.heap.size (fun _ => True) W' → y.m = u.m → Below w.heap.size w W' → RemPost u.m w (.returned y.v) W') := hq (fun y W' h1 h2 h3 => ⟨y, rfl, h1, h2, h3⟩)
    generalize RemPost u.m w = PP at *
    clear hx hu hwx hwu hp
    obtain ⟨k, t, ⟨ko, kc, kl⟩, o, c, is⟩ := x
    obtain ⟨k', t', ⟨ko', kc', kl'⟩, o', c', is'⟩ := u
    rw [Vt.v_mk'] at *
    rw [Vt.v_mk'] at *
    generalize (Vt.mk k' t' ⟨ko', kc', kl'⟩ o' c' is').m = U at *
    obtain ⟨hb0, hw0, hw1, hw2⟩ := three_boxes w 37 #[.int .i64 k, .string (st t), .slice ko kl.length kc, .slice o is.length c] #[.int .i64 k', .string (st t'), .slice ko' kl'.length kc', .slice o' is'.length c'] #[.int .i64 0, .string ⟨#[]⟩, .slice none 0 0, .slice none 0 0]
    have HB0 := hq hb0
    have HW1 := hq hw1
    have HW2 := hq hw2
    clear hb0 hw0 hw1 hw2
    go_enter Tryz.func71, Tryz.ntmps71
    go_upto_region 1 with fail
    have HGW : Hq (w.heap.size ≤ w.heap.size + 1 + 1) := hq (by omega)
    generalize (((w.alloc (.cells #[.int .i64 k, .string (st t), .slice ko kl.length kc, .slice o is.length c] 37)).alloc (.cells #[.int .i64 k', .string (st t'), .slice ko' kl'.length kc', .slice o' is'.length c'] 37)).alloc (.cells #[.int .i64 0, .string ⟨#[]⟩, .slice none 0 0, .slice none 0 0] 37)) = V0 at *
    obtain ⟨c0, c1, c2, c3⟩ := four_cells HW1.o
    have HC := HCU.o V0 HB0.o
    have HG2 := hq HW2.o.lt
    clear HCU
    go_wp2_with fail
    refine HC.mono ?_
    rintro e w2 ⟨y, rfl, hyo, hym, hb2⟩
    obtain ⟨r0, r1, r2, r3⟩ := four_cells (HW2.o.grow hb2)
    obtain ⟨f0, f1, f2, f3⟩ := four_freeP (HW2.o.grow hb2)
    have HV := hq (fun a b c d => HP.o y ((((w2.setCell ⟨w.heap.size + 1 + 1, 0, none⟩ a).setCell ⟨w.heap.size + 1 + 1, 1, none⟩ b).setCell ⟨w.heap.size + 1 + 1, 2, none⟩ c).setCell ⟨w.heap.size + 1 + 1, 3, none⟩ d) ((own_put4 hyo HG2.o a b c d).base (by have := HB0.o.size; exact this)) hym (below_put4 (below_trans HB0.o hb2) HGW.o a b c d))
    obtain ⟨yk, yt, ⟨yko, ykc, ykl⟩, yo, yc, yis⟩ := y
    rw [Vt.v_mk']
    clear HC hyo hym hb2 HP c0 c1 c2 c3
    go_wp2_with fail
    refine bodyPost_ret (v := (Vt.mk yk yt ⟨yko, ykc, ykl⟩ yo yc yis).v) ?_ rfl (HV.o _ _ _ _)
    simp [results, Tryz.results71, go_sem, r0, r1, r2, r3, Vt.v_mk']
  | cons s r ih =>
    intro x u po pc w hx hu hwx hwu hp hpt hox hgs
    obtain ⟨pb, pf, rfl, m0⟩ := hp.rd 0 (by simp)
    simp only [List.getElem_cons_zero, Nat.add_zero] at m0
    have HST := hq (fun V (hV : Below w.heap.size w V) => rstep_any x s V (hx.grow hV) (hpt s (List.mem_cons_self ..)))
    have HCX := hq (fun V (hV : Below w.heap.size w V) => cloneN_any x V (hx.grow hV) hwx)
    have HTL := hq (fun V (hV : Below w.heap.size w V) => (srow_tail hp).grow hV)
    have hpl : r.length + 1 ≤ pc := hp.le
    have hpc : pc ≤ maxLen := hp.cp
    unfold maxLen at hpc
    have HXO := hq hx
    -- where the step leads
    have hexp : ∃ (i : Nat) (hi : i < x.is.length), stepM x.m s = (i : Int) ∧ (belowM x.m s).2 = true ∧ (belowM x.m s).1 = (i : Int) ∧ (pgetM r (x.is[i]).m).isSome = true ∧ openM (x.is[i]).m = true ∧ psetM (s :: r) x.m u.m = psetM [s] x.m (psetM r (x.is[i]).m u.m) := by
      obtain ⟨old, hget⟩ := Option.isSome_iff_exists.1 hgs
      obtain ⟨hb, z, hz, h2⟩ := pget_cons hget
      have hop2 : openM z = true := pget_open [s] x.m z (by rw [pgetM, if_pos hb, hz]; rfl) hox
      obtain ⟨k, t, ks, o, c, is⟩ := x
      obtain ⟨i, hi, hbi⟩ := below_in (open_good hox).1 hb
      rw [hbi, Int.toNat_natCast] at hz
      have hz2 : (Vt.mk k t ks o c is).m.is[i]? = some (is[i]).m := by rw [Vt.m_mk]; simp [Vl.is, hi]
      rw [hz2] at hz
      have hze := Option.some.inj hz
      have hps : psetM (s :: r) (Vt.mk k t ks o c is).m u.m = psetM [s] (Vt.mk k t ks o c is).m (psetM r (is[i]).m u.m) := by
        rw [Vt.m_mk] at hbi ⊢
        exact pset_cons hbi (by simp [hi])
      refine ⟨i, hi, by unfold stepM; rw [if_pos hb, hbi], hb, hbi, ?_, ?_, hps⟩
      · show (pgetM r (is[i]).m).isSome = true
        rw [hze, h2]; rfl
      · show openM (is[i]).m = true
        rw [hze]; exact hop2
    obtain ⟨i, hi, hsi, hb2, hbi, hgi, hoi, hpse⟩ := hexp
    have HSET := hq (fun V (hV : Below w.heap.size w V) => ih (x.is[i]) u _ _ V (by obtain ⟨k, t, ks, o, c, is⟩ := x; exact (hx.item i hi).grow hV) (hu.grow hV) (by
      obtain ⟨k, t, ks, o, c, is⟩ := x
      rw [Vt.m_mk] at hwx
      exact Nat.le_trans (weight_item (List.mem_map.2 ⟨_, List.getElem_mem hi, rfl⟩)) hwx) hwu (HTL.o V hV) (fun z hz => hpt z (List.mem_cons_of_mem _ hz)) hoi hgi)
    have HIA := hq (fun V (hV : Below w.heap.size w V) => (show ∃ bb ff, x.o = some ⟨bb, ff, none⟩ ∧ ItemAt V bb (ff + i * 4) x.is[i] from by obtain ⟨k, t, ks, o, c, is⟩ := x; exact (hx.grow hV).at_ i hi))
    have HPM0 := hq (fun V (hV : Below w.heap.size w V) => (hV.cell (p := ⟨pb, pf, none⟩) (cell_blk m0)).trans m0)
    rw [hsi] at HST
    rw [hpse]
    generalize psetM r (x.is[i]).m u.m = NM at *
    have HP : Hq (∀ (y : Vt) W', y.Own 37 9 w.heap.size (fun _ => True) W' → y.m = psetM [s] x.m NM → Below w.heap.size w W' → RemPost (psetM [s] x.m NM) w (.returned y.v) W') := hq (fun y W' h1 h2 h3 => ⟨y, rfl, h1, h2, h3⟩)
    generalize RemPost (psetM [s] x.m NM) w = PP at *
    have HBI := hq (And.intro hb2 hbi)
    have HXL : Hq (x.is.length = x.m.is.length) := hq (by obtain ⟨k, t, ks, o, c, is⟩ := x; rw [Vt.m_mk]; simp [Vt.is, Vl.is])
    obtain ⟨bx, fx, hxo, _⟩ := HIA.o w (Below.refl _ _)
    have hcx : x.c ≤ maxLen ∧ x.is.length ≤ x.c := by obtain ⟨k, t, ks, o, c, is⟩ := x; exact ⟨hx.hc, hx.hl⟩
    obtain ⟨hcx1, hcx2⟩ := hcx
    unfold maxLen at hcx1
    have HIA2 := hq (fun V (hV : Below w.heap.size w V) => (show ItemAt V bx (fx + i * 4) x.is[i] from by
      obtain ⟨b', f', h1, h2⟩ := HIA.o V hV
      rw [hxo] at h1
      injection h1 with h1
      injection h1 with h3 h4
      subst h3 h4
      exact h2))
    have HILT := hq hi
    clear hx hu hwx hwu hp hpt hox hgs hsi hb2 hbi hgi hoi hpse ih m0 HTL HIA
    obtain ⟨k, t, ⟨ko, kc, kl⟩, o, c, is⟩ := x
    simp only [Vt.o, Vt.c, Vt.is] at hxo hcx1 hcx2 HSET HIA2 HXL HILT
    subst hxo
    have HXM : ∃ XM, XM = (Vt.mk k t ⟨ko, kc, kl⟩ (some ⟨bx, fx, none⟩) c is).m := ⟨_, rfl⟩
    obtain ⟨XM, hXM⟩ := HXM
    rw [← hXM] at HCX HP HBI HXL
    have hi' : i < is.length := HILT.o
    generalize is[i] = z at *
    obtain ⟨zk, zt, ⟨zko, zkc, zkl⟩, zo, zc, zis⟩ := z
    obtain ⟨k', t', ⟨ko', kc', kl'⟩, o', c', is'⟩ := u
    rw [Vt.v_mk'] at *
    rw [Vt.v_mk'] at *
    obtain ⟨hb0, hw0, hw1, hw2⟩ := three_boxes w 37 #[.int .i64 k, .string (st t), .slice ko kl.length kc, .slice (some ⟨bx, fx, none⟩) is.length c] #[.int .i64 k', .string (st t'), .slice ko' kl'.length kc', .slice o' is'.length c'] #[.int .i64 0, .string ⟨#[]⟩, .slice none 0 0, .slice none 0 0]
    have HB0 := hq hb0
    have HW0 := hq hw0
    have HW1 := hq hw1
    have HW2 := hq hw2
    clear hb0 hw0 hw1 hw2 hXM

    go_enter Tryz.func71, Tryz.ntmps71
    go_upto_region 1 with fail
    have HGW : Hq (w.heap.size ≤ w.heap.size + 1 + 1) := hq (by omega)
    generalize (((w.alloc (.cells #[.int .i64 k, .string (st t), .slice ko kl.length kc, .slice (some ⟨bx, fx, none⟩) is.length c] 37)).alloc (.cells #[.int .i64 k', .string (st t'), .slice ko' kl'.length kc', .slice o' is'.length c'] 37)).alloc (.cells #[.int .i64 0, .string ⟨#[]⟩, .slice none 0 0, .slice none 0 0] 37)) = V0 at *
    have HG2 := hq HW2.o.lt
    obtain ⟨c0, c1, c2, c3⟩ := four_cells HW0.o
    have hr1 : ((r.length : Int) + 1 == 0) = false := beq_eq_false_iff_ne.2 (by omega)
    have HC := HCX.o V0 HB0.o
    clear HCX
    go_wp2_with fail
    refine HC.mono ?_
    rintro e w2 ⟨y, rfl, ⟨hyo, hyn⟩, hym, hb2⟩
    have HV2 := hq hb2
    have HYO := hq hyo
    have HYN := hq hyn
    have HYM := hq hym
    have HYR := hq (show w2.heap.size ∉ y.rows from fun h => Nat.lt_irrefl _ ((hyo.lt.rowsS _ h).2.2))
    have HYS := hq (show ∀ g ∈ y.rows, g < w2.heap.size from fun g h => (hyo.lt.rowsS _ h).2.2)
    have HYT : Hq (ItemAt (w2.alloc (.cells #[.int .i64 y.k, .string (st y.t), y.ks.v, y.row] 37)) w2.heap.size 0 y) := hq (by
      obtain ⟨a, b, c, d⟩ := four_cells (Whole.made w2 37 #[.int .i64 y.k, .string (st y.t), y.ks.v, y.row])
      exact ⟨a, b, c, d⟩)
    clear HC hb2 hyo hyn hym c0 c1 c2 c3
    -- the clone's row
    have hrow : ∃ bo, y.o = some ⟨bo, 0, none⟩ ∧ y.is.length = is.length ∧ y.c ≤ maxLen ∧ y.is.length ≤ y.c := by
      have hl : y.is.length = is.length := by
        rw [HXL.o, ← HYM.o]; cases y; rw [Vt.m_mk]; simp [Vt.is, Vl.is]
      cases HYO.o with
      | mk k t ks o c is2 hks hkb hrow hrb hit =>
        rcases hrow.2 with ⟨_, h0⟩ | ⟨g', cap', cur', hv, _, _, hc1, hc2, _⟩
        · simp only [Vt.is] at hl
          omega
        · injection hv with e1 e2 e3
          exact ⟨g', e1, hl, by simp only [Vt.c]; omega, by simp only [Vt.is, Vt.c]; omega⟩
    obtain ⟨bo, hyb, hyl, hyc1, hyc2⟩ := hrow
    unfold maxLen at hyc1
    have HPS := hq (fun (V : World) (n : Vt) (hn : n.Own 37 9 V0.heap.size (fun _ => True) V) (zz : Vt) => pset_own hn [s] w2.heap.size 0 y bo (i * 4) zz)
    have HNL : Hq (∃ zz, (nodesM [s] (w2.heap.size, 0, y)).getLast? = some (bo, i * 4, zz) ∧ (nodesM [s] (w2.heap.size, 0, y)).length = [s].length + 1) := hq (by
      have hyi : i < y.is.length := by rw [hyl]; exact hi'
      refine ⟨y.is[i], ?_, ?_⟩
      · simp only [nodesM]
        rw [HYM.o, HBI.o.1, HBI.o.2, hyb, Int.toNat_natCast, List.getElem?_eq_getElem hyi]
        simp
      · simp only [nodesM]
        rw [HYM.o, HBI.o.1, HBI.o.2, hyb, Int.toNat_natCast, List.getElem?_eq_getElem hyi]
        simp)
    have HPM := hq (fun n => psetT_m [s] y n)
    obtain ⟨yk, yt, ⟨yko, ykc, ykl⟩, yo, yc, yis⟩ := y
    simp only [Vt.o, Vt.c, Vt.is] at hyb hyl hyc1 hyc2
    subst hyb
    have hiy : i < yis.length := by omega
    clear hyl
    rw [Vt.v_mk'] at *
    simp only [Vt.k, Vt.t, Vt.ks, SRow.v, Vt.row, Vt.o, Vt.is, Vt.c] at HYT
    generalize (Vt.mk yk yt ⟨yko, ykc, ykl⟩ (some ⟨bo, 0, none⟩) yc yis) = Y at *
    have HW5 := hq (Whole.made w2 37 #[.int .i64 yk, .string (st yt), .slice yko ykl.length ykc, .slice (some ⟨bo, 0, none⟩) yis.length yc])
    have HAL := hq (below_alloc w2 (.cells #[.int .i64 yk, .string (st yt), .slice yko ykl.length ykc, .slice (some ⟨bo, 0, none⟩) yis.length yc] 37))
    go_upto_region 4 with fail
    generalize hg5 : w2.heap.size = g5 at HYT HYR HYS HPS HNL HW5 ⊢
    have HG5 := hq (show V0.heap.size ≤ g5 from by rw [← hg5]; exact HV2.o.size)
    have HG5L := hq (show g5 < (w2.alloc (.cells #[.int .i64 yk, .string (st yt), .slice yko ykl.length ykc, .slice (some ⟨bo, 0, none⟩) yis.length yc] 37)).heap.size from HW5.o.lt)
    clear hg5
    have HV6 := hq (below_trans HV2.o HAL.o)
    have HYO6 := hq (HYO.o.grow HAL.o)
    generalize (w2.alloc (.cells #[.int .i64 yk, .string (st yt), .slice yko ykl.length ykc, .slice (some ⟨bo, 0, none⟩) yis.length yc] 37)) = V6 at *
    clear HYO HAL HV2
    have HBW := hq (fun V (hV : Below V6.heap.size V6 V) => below_trans HB0.o (below_trans HV6.o hV))
    have HCC := hq (fun V (hV : Below V6.heap.size V6 V) => And.intro (HW0.o.grow (below_trans HV6.o hV)) (And.intro (HW1.o.grow (below_trans HV6.o hV)) (And.intro (HW2.o.grow (below_trans HV6.o hV)) (HW5.o.grow hV))))
    have HSG := hq (fun V (hV : Below V6.heap.size V6 V) => And.intro hV (And.intro (four_cells (HCC.o V hV).1) (HPM0.o V (HBW.o V hV))))
    have hT0 := HSG.o V6 (Below.refl _ _)
    obtain ⟨_, ⟨c0, c1, c2, c3⟩, m0⟩ := hT0
    have hT0 := HSG.o V6 (Below.refl _ _)
    have hpz : (0 : Int) < (r.length : Int) + 1 := by omega
    go_region_held3 (fun V => Below V6.heap.size V6 V ∧ (V.cell? ⟨w.heap.size, 0, none⟩ = some (.int .i64 k) ∧ V.cell? ⟨w.heap.size, 1, none⟩ = some (.string (st t)) ∧ V.cell? ⟨w.heap.size, 2, none⟩ = some (.slice ko kl.length kc) ∧ V.cell? ⟨w.heap.size, 3, none⟩ = some (.slice (some ⟨bx, fx, none⟩) is.length c)) ∧ V.cell? ⟨pb, pf, none⟩ = some (.string (st s)))
      (first | exact hT0 | exact HSG.o _ ((Below.refl _ _).drew) | exact hT2)
      ((go_at_call 70; refine (HST.o _ (HBW.o _ (And.left (by with_reducible assumption)))).mono ?_; rintro e' w9 ⟨rfl, hb9⟩; have hT2 := HSG.o w9 (below_trans (And.left (by with_reducible assumption)) hb9)))
    have HB9 := hq hT2.1
    have HV9 := hq (below_trans HV6.o HB9.o)
    have HCC9 := hq (fun V (hV : Below w9.heap.size w9 V) => HCC.o V (below_trans HB9.o hV))
    have HBW9 := hq (fun V (hV : Below w9.heap.size w9 V) => HBW.o V (below_trans HB9.o hV))
    have HYO9 := hq (HYO6.o.grow HB9.o)
    have HYT9 := hq (HYT.o.grow HB9.o)
    have HG59 := hq (show g5 < w9.heap.size from Nat.lt_of_lt_of_le HG5L.o HB9.o.size)
    clear hT2 hT0 HSG HST HPM0 HCC HBW c0 c1 c2 c3 m0 HYO6 HYT HG5L
    have HS3 := hq (fun V (hV : Below V0.heap.size V0 V) (hd : V.cell? ⟨g5, 3, none⟩ = some (.slice (some ⟨bo, 0, none⟩) yis.length yc)) => And.intro hV (And.intro (four3 (HW0.o.grow hV)) (And.intro hd (And.intro (four_cells (HW1.o.grow hV)) (HIA2.o V (below_trans HB0.o hV)).four))))
    simp only [Vt.k, Vt.t, Vt.ks, SRow.v, Vt.row, Vt.o, Vt.is, Vt.c] at HS3
    have hd9 : w9.cell? ⟨g5, 3, none⟩ = some (.slice (some ⟨bo, 0, none⟩) yis.length yc) := four3 (HCC9.o w9 (Below.refl _ _)).2.2.2
    have hT0 := HS3.o w9 HV9.o hd9
    have hTd := HS3.o w9.drew HV9.o.drew hd9
    obtain ⟨_, c3, d3, ⟨e0, e1, e2, e3⟩, q0, q1, q2, q3⟩ := HS3.o w9 HV9.o hd9
    have hiz0 : (0 : Int) ≤ (i : Int) := by omega
    have hiz1 : (i : Int) < (is.length : Int) := by omega
    have hiz2 : (i : Int) < (yis.length : Int) := by omega
    have HNL2 := hq HNL.o
    clear HNL
    have HS2 := hq (fun (n : Vt) (W : World) (hno : n.Own 37 9 w9.heap.size (fun _ => True) W) (hb9 : Below w9.heap.size w9 W) => (show ∃ cz, W.heap[bo]? = some (.cells cz 37 (0, 0)) ∧ i * 4 + 4 ≤ cz.size ∧ (psetT [s] Y n).Own 37 9 V0.heap.size (fun _ => True) (p4 W bo (i * 4) n) ∧ ItemAt (p4 W bo (i * 4) n) g5 0 (psetT [s] Y n) ∧ V0.heap.size ≤ bo ∧ bo ≠ g5 from by
      obtain ⟨zz, hl1, hl2⟩ := HNL2.o
      have h := HPS.o W n (hno.base HV9.o.size) zz #[.int .i64 yk, .string (st yt), .slice yko ykl.length ykc, .slice (some ⟨bo, 0, none⟩) yis.length yc] (HYO9.o.grow hb9) HYN.o HYR.o ((HCC9.o W hb9).2.2.2) (Nat.le_refl _) (fun h => by
        have h1 := (hno.lt.rowsS _ h).2.1
        have h2 := HG59.o
        omega) (fun g hg h => by
        have h1 := (hno.lt.rowsS _ h).2.1
        have h2 := HYS.o g hg
        have h3 := HG59.o
        omega) (HYT9.o.grow hb9) hl1 hl2
      obtain ⟨a1, a2, a3, cz, a4, a5⟩ := h
      rcases a3 with ⟨e, _⟩ | ⟨_, e⟩
      · cases e
      · exact ⟨cz, a4, a5, a1, a2, (HYO9.o.lt.rowsS bo e).2.1, fun h => HYR.o (by rw [← h]; exact e)⟩))
    have HPM2 := hq HPM.o
    clear HPS HNL2 HYO9 HYN HYR HYS HYT9 HG59 HPM HIA2
    obtain ⟨A, hA⟩ : ∃ A : Option Addr, (if pc = 1 then some (⟨pb, pf, none⟩ : Addr) else some ⟨pb, pf + 1, none⟩) = A := ⟨_, rfl⟩
    rw [hA] at HSET
    have hs1 : (1 : Int) ≤ (r.length : Int) + 1 := by omega
    have hs2 : (r.length : Int) + 1 ≤ (pc : Int) := by omega
    have hs3 : ((r.length : Int) + 1 - 1).toNat = r.length := by omega
    go_upto_region 5 with fail
    go_region_held3 (fun V => Below V0.heap.size V0 V ∧ V.cell? ⟨w.heap.size, 3, none⟩ = some (.slice (some ⟨bx, fx, none⟩) is.length c) ∧ V.cell? ⟨g5, 3, none⟩ = some (.slice (some ⟨bo, 0, none⟩) yis.length yc) ∧ (V.cell? ⟨w.heap.size + 1, 0, none⟩ = some (.int .i64 k') ∧ V.cell? ⟨w.heap.size + 1, 1, none⟩ = some (.string (st t')) ∧ V.cell? ⟨w.heap.size + 1, 2, none⟩ = some (.slice ko' kl'.length kc') ∧ V.cell? ⟨w.heap.size + 1, 3, none⟩ = some (.slice o' is'.length c')) ∧ V.cell? ⟨bx, fx + i * 4, none⟩ = some (.int .i64 zk) ∧ V.cell? ⟨bx, fx + i * 4 + 1, none⟩ = some (.string (st zt)) ∧ V.cell? ⟨bx, fx + i * 4 + 2, none⟩ = some (.slice zko zkl.length zkc) ∧ V.cell? ⟨bx, fx + i * 4 + 3, none⟩ = some (.slice zo zis.length zc))
      (first | exact hT0 | exact hTd | exact hT2 | exact hT3)
      ((go_at_call 71; refine (HSET.o _ (below_trans HB0.o (And.left (by with_reducible assumption)))).mono ?_; rintro e' wA ⟨n, rfl, hno, hnm, hbA⟩; have hbA9 : Below w9.heap.size w9 wA := (show Below w9.heap.size w9 wA from by first | exact hbA | exact below_trans (Below.refl _ _).drew hbA); have hd2 : wA.cell? ⟨g5, 3, none⟩ = some (.slice (some ⟨bo, 0, none⟩) yis.length yc) := four3 (HCC9.o wA hbA9).2.2.2; have hT2 := HS3.o wA (below_trans HV9.o hbA9) hd2; obtain ⟨cz, a1, a2, a3, a4, a5, a6⟩ := HS2.o n wA hno hbA9; have hT3 := HS3.o (p4 wA bo (i * 4) n) (below_p4 (below_trans HV9.o hbA9) a5 _ _) ((cell_same (p4_other (fun e => a6 e.symm))).trans hd2); obtain ⟨v0, z0⟩ := whole_some (show Whole wA bo 37 cz from a1) (i := i * 4) (by omega); obtain ⟨v1, z1⟩ := whole_some (show Whole wA bo 37 cz from a1) (i := i * 4 + 1) (by omega); obtain ⟨v2, z2⟩ := whole_some (show Whole wA bo 37 cz from a1) (i := i * 4 + 2) (by omega); obtain ⟨v3, z3⟩ := whole_some (show Whole wA bo 37 cz from a1) (i := i * 4 + 3) (by omega); have y0 := (show Whole wA bo 37 cz from a1).free (i * 4); have y1 := (show Whole wA bo 37 cz from a1).free (i * 4 + 1); have y2 := (show Whole wA bo 37 cz from a1).free (i * 4 + 2); have y3 := (show Whole wA bo 37 cz from a1).free (i * 4 + 3); have HQO := hq a3; have HQT := hq a4; have HQM := hq (HPM2.o n); have HNM := hq hnm; have HVP := hq (below_p4 (below_trans HV9.o hbA9) a5 (i * 4) n); obtain ⟨nk, nt, ⟨nko, nkc, nkl⟩, no, nc, nis⟩ := n; rw [Vt.v_mk']; unfold p4 at HQO HQT hT3 HVP; simp only [Vt.k, Vt.t, Vt.ks, SRow.v, Vt.row, Vt.o, Vt.is, Vt.c] at HQO HQT hT3 HVP; clear a1 a2 a3 a4 a5 a6 hno hnm hbA hbA9))
    go_simp
    generalize (((wA.setCell ⟨bo, i * 4, none⟩ (.int .i64 nk)).setCell ⟨bo, i * 4 + 1, none⟩ (.string (st nt))).setCell ⟨bo, i * 4 + 2, none⟩ (.slice nko nkl.length nkc)).setCell ⟨bo, i * 4 + 3, none⟩ (.slice no nis.length nc) = WF at *
    have HQX : Hq ((psetT [s] Y (Vt.mk nk nt ⟨nko, nkc, nkl⟩ no nc nis)).m = psetM [s] XM NM) := hq (by rw [HQM.o, HYM.o, HNM.o])
    generalize psetT [s] Y (Vt.mk nk nt ⟨nko, nkc, nkl⟩ no nc nis) = Q at *
    obtain ⟨q0, q1, q2, q3⟩ := HQT.o
    obtain ⟨r0, r1, r2, r3⟩ := four_cells (HW2.o.grow HVP.o)
    obtain ⟨f0, f1, f2, f3⟩ := four_freeP (HW2.o.grow HVP.o)
    have HV := hq (fun a b c d => HP.o Q ((((WF.setCell ⟨w.heap.size + 1 + 1, 0, none⟩ a).setCell ⟨w.heap.size + 1 + 1, 1, none⟩ b).setCell ⟨w.heap.size + 1 + 1, 2, none⟩ c).setCell ⟨w.heap.size + 1 + 1, 3, none⟩ d) ((own_put4 HQO.o HG2.o a b c d).base (by have := HB0.o.size; exact this)) HQX.o (below_put4 (below_trans HB0.o HVP.o) HGW.o a b c d))
    obtain ⟨qk, qt, ⟨qko, qkc, qkl⟩, qo, qc, qis⟩ := Q
    simp only [Vt.k, Vt.t, Vt.ks, SRow.v, Vt.row, Vt.o, Vt.is, Vt.c] at q0 q1 q2 q3
    have hq3 := Option.some.inj (q3.symm.trans hT3.2.2.1)
    injection hq3 with ha hb hc
    have HA := hq ha.symm
    have HBL := hq hb.symm
    have HCL := hq hc.symm
    clear ha hb hc
    clear HQX HQT HQO HP hT0 hTd hT2 hT3 HQM HNM HVP HS2 HS3 HPM2 HSET HBW9 HCC9 z0 z1 z2 z3 y0 y1 y2 y3 hd2 hd9 c3 d3 e0 e1 e2 e3
    go_wp2_with fail
    refine bodyPost_ret (v := (Vt.mk qk qt ⟨qko, qkc, qkl⟩ qo qc qis).v) ?_ rfl (HV.o _ _ _ _)
    simp [results, Tryz.results71, go_sem, r0, r1, r2, r3, Vt.v_mk']
    exact ⟨HA.o, HBL.o, HCL.o⟩
end Go.Proofs.YtabfojdieegklaaGreatDoor
