/-
  WALK: value.remake, whatever the order of a node's items.
-/
import Derived.Test.YtfibmmmbpfnccaaGreatDoorVtC
import Derived.Test.YtfibmmmbpfnccaaGreatDoorRowMem
namespace Go.Proofs.YtfibmmmbpfnccaaGreatDoor
open Go.RowKit

theorem step_atV {ops : Array Oper} {o : Oper} {a : Act} {w : World} {K : Act → World → Prop} {Q : Exit → Act → World → Prop} {E : Prop} (hg : o.guard = none) (s x : Operand) (t : TypeId)
    (ho : o.op = .call { callee := .builtin .append, args := #[s, x], argTypes := #[t, t] })
    (base : Nat) (e : TypeId) (i : TypeInfo) (z : Value) (size bytes : Nat) (ht : Tryz.prog.underlying t = some (.slice e)) (hi : Tryz.prog.info? e = some i) (hz : i.zero = some z)
    (hsize : i.size = size) (hby : i.bytes = bytes) (hzs : z.cells.size = size) (hsz : 0 < size)
    (v : Value) (n : Nat) (xs : List Value) (hs : a.eval s = v) (hown : w.ownsRow base e size v n xs)
    (ad : Addr) (m c : Nat) (news : List Value) (hx : a.eval x = .slice (some ad) m c) (hl : news.length = m * size) (hnews : ∀ j u, news[j]? = some u → w.cell? (ad.add j) = some u) (h1 : ∀ u ∈ news, u.oneCell' = true)
    (h63 : n + m ≤ maxLen) (hbytes : (n + m) * bytes ≤ 140737488355328) (hbase : base ≤ w.heap.size)
    (h : ∀ v' w', w'.ownsRow base e size v' (n + m) (xs ++ news) → w.grownBy w' v.ownBlock → (v'.ownBlock = v.ownBlock ∨ v'.ownBlock = some w.heap.size) → K (a.put o.dst v') w') :
    if Region.wanted o (yielded ops a.tmps) = true then Oper.wp Tryz.prog o a w K Q else E := by
  rw [if_pos (by simp [Region.wanted, hg])]
  obtain ⟨v', w', hr, h2, h3, h4, h5⟩ := run_append_own_at (P := Tryz.prog) w base t o.type e i z size bytes ht hi hz hsize hby hzs hsz v n xs hown ad m c news hl hnews h1 h63 hbytes hbase
  unfold Oper.wp execOp
  simp only [ho, resolve, invoke, builtin, Sem.run_bind, Sem.run_pure, Result.andThen_ok, List.map_toArray, List.map_cons, List.map_nil, hs, hx, hr]
  exact h v' w' h2 h3 h5
theorem row_shapeV {w : World} {B e n size : Nat} {v : Value} {xs : List Value} (h : w.ownsRow B e size v n xs) : ∃ a c, v = .slice a n c := by
  rcases h.2 with ⟨rfl, rfl⟩ | ⟨g', cap', cur, rfl, _⟩
  · exact ⟨_, _, rfl⟩
  · exact ⟨_, _, rfl⟩
theorem row_shapeV1 {w : World} {B e n size : Nat} {v : Value} {xs : List Value} (h : w.ownsRow B e size v (n + 1) xs) : ∃ g c, v = .slice (some ⟨g, 0, none⟩) (n + 1) c := by
  rcases h.2 with ⟨_, h0⟩ | ⟨g', cap', cur, rfl, _⟩
  · omega
  · exact ⟨_, _, rfl⟩
/-- what remake answers -/
def RemPost (r : Vl) (W : World) (e : Ending) (W' : World) : Prop := ∃ y : Vt, e = .returned y.v ∧ y.Own 25 9 W.heap.size (fun _ => True) W' ∧ y.m = r ∧ Below W.heap.size W W'
/-- an order of items serves a tree -/
structure OrdOk (ord : Vl → List Nat) (G : Vl → Prop) : Prop where
  lt : ∀ k t ks is, G (.mk k t ks is) → ∀ i ∈ ord (.mk k t ks is), i < is.length
  keys : ∀ k t ks is, G (.mk k t ks is) → k = 6 → ks.length = is.length
  len : ∀ v, G v → (ord v).length ≤ 1000000
  items : ∀ k t ks is, G (.mk k t ks is) → ∀ x ∈ is, G x
theorem natC_at {l : List Nat} {j : Nat} (h : j < l.length) : (natC l)[j]? = some (.int .i64 (l[j] : Int)) := by unfold natC; simp [h]
theorem three_boxes (w : World) (T : TypeId) (A B C : Array Value) : Below w.heap.size w (((w.alloc (.cells A T)).alloc (.cells B T)).alloc (.cells C T)) ∧ Whole (((w.alloc (.cells A T)).alloc (.cells B T)).alloc (.cells C T)) w.heap.size T A ∧ Whole (((w.alloc (.cells A T)).alloc (.cells B T)).alloc (.cells C T)) (w.heap.size + 1) T B ∧ Whole (((w.alloc (.cells A T)).alloc (.cells B T)).alloc (.cells C T)) (w.heap.size + 1 + 1) T C := by
  obtain ⟨h0, h1, h2⟩ := two_boxes w T A B
  have h3 := Whole.made ((w.alloc (.cells A T)).alloc (.cells B T)) T C
  rw [World.size_alloc, World.size_alloc] at h3
  exact ⟨h0.alloc (by rw [World.size_alloc, World.size_alloc]; omega) _, h1.alloc _, h2.alloc _, h3⟩
set_option maxHeartbeats 8000000 in
set_option maxRecDepth 1000000 in
theorem remake_any {w0 : World} {F : Nat} {ord : Vl → List Nat} {G : Vl → Prop} (hG : OrdOk ord G) (hcf : ∀ (args : Array Value) (w : World), (callFunc F args).run Tryz.prog w = .ok (.enter F args) w)
    (hord : ∀ (x : Vt) (W : World), Below w0.heap.size w0 W → x.Ok W → G x.m → Calls Tryz.prog F #[x.v] W (NatsPost W.heap.size (ord x.m) W)) :
    ∀ (x : Vt) (W : World), Below w0.heap.size w0 W → x.Ok W → G x.m → Calls Tryz.prog 63 #[x.v, .func (.func F) #[] #[]] W (RemPost (remV ord x.m) W) := Vt.ind (fun k t ks o c is ih W hbw hok hgood => by
  obtain ⟨ko, kc, kl⟩ := ks
  have hn := hok.hl
  have hc := hok.hc
  have hkl : kl.length ≤ kc := hok.hks.le
  have hkc : kc ≤ maxLen := hok.hks.cp
  unfold maxLen at hc hkc
  obtain ⟨hb0, hw0, hwR, hw1⟩ := three_boxes W 25 #[.int .i64 k, .string (st t), .slice ko kl.length kc, .slice o is.length c] #[.int .i64 0, .string ⟨#[]⟩, .slice none 0 0, .slice none 0 0] #[.int .i64 k, .string (st t), .slice none 0 0, .slice none 0 0]
  have HORD := hq (fun V (hb : Below W.heap.size W V) => hord _ V (hbw.trans (hb.mono hbw.size)) (hok.grow hb) hgood)
  rw [Vt.m_mk] at *
  rw [Vt.v_mk'] at *
  simp only at *
  have HLT := hq (hG.lt _ _ _ _ hgood)
  have HKY := hq (hG.keys _ _ _ _ hgood)
  have hln := hG.len _ hgood
  have HIH := hq (fun (x : Vt) (hx : x ∈ is) V (hb : Below W.heap.size W V) (h : x.Ok V) => ih x hx V (hbw.trans (hb.mono hbw.size)) h (hG.items _ _ _ _ hgood x.m (List.mem_map.2 ⟨x, hx, rfl⟩)))
  have HP : Hq (∀ (y : Vt) W', y.Own 25 9 W.heap.size (fun _ => True) W' → y.m = .mk k t (if k = 6 then (ord (.mk k t kl (is.map Vt.m))).map (keyAt kl) else []) ((ord (.mk k t kl (is.map Vt.m))).map (fun i => (remL ord (is.map Vt.m)).getD i default)) → Below W.heap.size W W' → RemPost (remV ord (.mk k t kl (is.map Vt.m))) W (.returned y.v) W') := hq (fun y W' h1 h2 h3 => ⟨y, rfl, h1, by rw [h2]; simp only [remV], h3⟩)
  generalize RemPost (remV ord (.mk k t kl (is.map Vt.m))) W = PP at *
  generalize ord (.mk k t kl (is.map Vt.m)) = od at *
  have HOK := hq hok
  have HB0 := hq hb0
  have HW0 := hq hw0
  have HW1 := hq hw1
  have HWR := hq hwR
  clear hok hbw hgood ih hb0 hw0 hw1 hwR hord hG
  go_enter Tryz.func63, Tryz.ntmps63
  go_upto_region 2 with fail
  generalize (((W.alloc (.cells #[.int .i64 k, .string (st t), .slice ko kl.length kc, .slice o is.length c] 25)).alloc (.cells #[.int .i64 0, .string ⟨#[]⟩, .slice none 0 0, .slice none 0 0] 25)).alloc (.cells #[.int .i64 k, .string (st t), .slice none 0 0, .slice none 0 0] 25)) = V at *
  obtain ⟨c0, c1, c2, c3⟩ := four_cells HW0.o
  have hBV := HW1.o.lt
  go_wp2_with fail
  refine (HORD.o V HB0.o).mono ?_
  rintro e w2 ⟨ov, rfl, hov, hb2⟩
  obtain ⟨oa, oc, rfl⟩ := row_shapeV hov
  have HI := hq (⟨below_trans HB0.o hb2, hb2.size, HW0.o.grow hb2, HWR.o.grow hb2, HW1.o.grow hb2, hov, World.ownsRow_nil _ _ _ _, World.ownsRow_nil _ _ _ _, (fun y hy => by cases hy), ⟨Nat.le_refl _, by omega⟩, ⟨by omega, by omega⟩, ⟨by omega, by omega⟩, by omega, by omega⟩ : RemI V.heap.size W W.heap.size (W.heap.size + 1) (W.heap.size + 1 + 1) #[.int .i64 k, .string (st t), .slice ko kl.length kc, .slice o is.length c] (.slice oa od.length oc) od k t ⟨none, 0, []⟩ none 0 [] w2)
  have HVW := hq (show W.heap.size + 1 + 1 < V.heap.size by omega)
  clear hov hb2 HORD HB0 HW0 HW1 HWR c0 c1 c2 c3 hBV
  go_wp2_with fail
  generalize hB : V.heap.size = B at *
  generalize hgv : W.heap.size = gv at *
  have HGV := hq hgv
  clear hB hgv
  go_loopw [7, 17] (fun _ i wr => ∃ (j : Nat) (kr : SRow) (p : Option Addr) (q : Nat) (ys : List Vt), j ≤ od.length ∧ i = .int .i64 (j : Int) ∧ Hq (RemI B W gv (gv + 1) (gv + 1 + 1) #[.int .i64 k, .string (st t), .slice ko kl.length kc, .slice o is.length c] (.slice oa od.length oc) od k t kr p q ys wr) ∧ Hq (kr.l = if k = 6 then (od.take j).map (keyAt kl) else []) ∧ Hq (ys.map Vt.m = (od.take j).map (fun i => (remL ord (is.map Vt.m)).getD i default))) (fun _ i _ => od.length - (intOf i).toNat)
  case atStart => exact ⟨0, ⟨none, 0, []⟩, none, 0, [], Nat.zero_le _, rfl, HI, hq (by simp), hq rfl⟩
  case round =>
    obtain ⟨j, kr, p, q, ys, hj, rfl, hI, hkr, hys⟩ := hrel
    by_cases h : j < od.length
    · have hz : (j : Int) < (od.length : Int) := by omega
      have hcap := own_cap hI.o.od
      obtain ⟨oa', ca', hoa⟩ := (show ∃ g c', Value.slice oa od.length oc = .slice (some ⟨g, 0, none⟩) od.length c' from by
        rcases hI.o.od.2 with ⟨_, h0⟩ | ⟨g', cap', cur, h1, _⟩
        · omega
        · exact ⟨_, _, h1⟩)
      injection hoa with hoa he1 he2
      clear he1 he2
      subst hoa
      have i0 : wr.cell? ⟨oa', j, none⟩ = some (.int .i64 (od[j] : Int)) := by
        have h1 := hI.o.od.cells (g := oa') rfl j _ (natC_at h)
        rwa [Addr.add_lit, Nat.zero_add] at h1
      have hil := HLT.o od[j] (List.getElem_mem h)
      rw [List.length_map] at hil
      have HTK : Hq (od.take (j + 1) = od.take j ++ [od[j]]) := hq (List.take_succ_eq_append_getElem h)
      generalize od[j] = i at *
      obtain ⟨c0, c1, c2, c3⟩ := four_cells hI.o.hv
      obtain ⟨d0, d1, d2, d3⟩ := four_cells hI.o.hw
      have HOKw := hq (HOK.o.grow (by have := hI.o.bl; exact this))
      go_upto_region 5 with fail
      go_cut [7, 17, 23] from 17 to 46 (fun a b v wx => a = .int .i64 (i : Int) ∧ b = .int .i64 (j : Int) ∧ v = .bool (k == 6) ∧ wr = wx)
      case first =>
        go_wp2_with fail
        go_meet
        exact ⟨rfl, rfl, rfl, rfl⟩
      case rest =>
        obtain ⟨rfl, rfl, rfl, rfl⟩ := hcut
        apply_assumption
        go_cut [7, 17] from 17 to 46 (fun a b wx => a = .int .i64 (i : Int) ∧ b = .int .i64 (j : Int) ∧ ∃ kr' : SRow, Hq (RemI B W gv (gv + 1) (gv + 1 + 1) #[.int .i64 k, .string (st t), .slice ko kl.length kc, .slice o is.length c] (.slice (some ⟨oa', 0, none⟩) od.length oc) od k t kr' p q ys wx) ∧ Hq (kr'.l = if k = 6 then (od.take (j + 1)).map (keyAt kl) else []))
        case first =>
          by_cases h6 : k = 6
          · have e6 : (k == 6) = true := beq_iff_eq.2 h6
            have hkl6 := HKY.o h6
            rw [List.length_map] at hkl6
            have hik : i < kl.length := by omega
            have hikz : (i : Int) < (kl.length : Int) := by omega
            obtain ⟨b, f, hko, k0⟩ := HOKw.o.hks.rd i hik
            simp only at hko k0
            have hkx := HOKw.o.hkt kl[i] (List.getElem_mem hik)
            have HKX := hq (keyAt_lt hik)
            have H6 := hq h6
            clear h6 hkl6
            have hkrl : kr.l.length ≤ 1000000 := by rw [hkr.o, if_pos H6.o, List.length_map, List.length_take]; omega
            have HKS := hq hI.o.ks
            have hszB := hI.o.sz
            have HWA := hq (fun (T : TypeId) (cs : Array Value) (w' : World) (hg : (wr.alloc (.cells cs T)).grownBy w' kr.v.ownBlock) => whole_grownV (hI.o.hw.alloc (.cells cs T)) hg (fun e => by have h1 := (hI.o.ks.lt _ e.symm).1; have h2 := hI.o.l1.2; omega))
            generalize kl[i] = kx at *
            subst hko
            have d2a := (hI.o.hw.alloc (.cells #[.string (st kx)] 9)).at_ 2
            change World.cell? _ _ = some kr.v at d2a
            unfold SRow.v at d2 d2a HKS
            obtain ⟨i1, hi1, hy0, hy1, hy2⟩ := info_partsV infoSv
            rw [e6]
            go_wp2_with fail
            go_region_law (refine step_atV rfl (.tmp 25) (.tmp 31) 22 rfl B 9 i1 (.string ⟨#[]⟩) 1 16 Tryz.underlying22 hi1 hy0 hy1 hy2 rfl (by decide) (.slice kr.o kr.l.length kr.cap) kr.l.length (strC kr.l) (by simp [Act.eval]) (HKS.o.alloc (.cells #[.string (st kx)] 9)) ⟨wr.heap.size, 0, none⟩ 1 1 [.string (st kx)] (by simp [Act.eval]) rfl (cells_of_new wr [.string (st kx)] _) (by simp [Value.oneCell']) (by unfold maxLen; omega) (by omega) (by show B ≤ (wr.alloc _).heap.size; rw [World.size_alloc]; omega) ?_; intro v' w6 hown6 hgrow6 hat6; obtain ⟨g6, c6, rfl⟩ := row_shapeV1 hown6; have hg6 : (wr.alloc (.cells #[.string (st kx)] 9)).grownBy w6 (Value.slice kr.o kr.l.length kr.cap).ownBlock := ⟨hgrow6.os, hgrow6.tape, hgrow6.output, hgrow6.size, hgrow6.block⟩; have hw6 := HWA.o _ _ w6 hg6; have e6a := hw6.at_ 2; have e6b := hw6.free 2)
            all_goals
              have hI6 := (hI.o.grow (below_alloc wr (.cells #[.string (st kx)] 9))).key (x := kx) hown6 hg6 hat6
              go_wp2_with fail
              go_meet
              exact ⟨rfl, rfl, _, hq hI6, hq (by
                simp only
                rw [hkr.o, if_pos H6.o, if_pos H6.o, HTK.o, List.map_append, List.map_cons, List.map_nil, HKX.o])⟩
          · have e6 : (k == 6) = false := beq_eq_false_iff_ne.2 h6
            rw [e6]
            go_wp2_with fail
            go_meet
            exact ⟨rfl, rfl, kr, hI, hq (by rw [hkr.o, if_neg h6, if_neg h6])⟩
        case rest =>
          obtain ⟨rfl, rfl, kr2, hI2, hkr2⟩ := hcut
          clear c0 c1 c2 c3 d0 d1 d2 d3 i0 hI hkr HKY
          apply_assumption
          have hbw : Below W.heap.size W wc := hI2.o.bl
          obtain ⟨b, f, ho, hia⟩ := (HOK.o.grow hbw).at_ i hil
          have HC := hq (fun V (hb : Below wc.heap.size wc V) => HIH.o is[i] (List.getElem_mem hil) V (by
            have h1 := below_trans hbw hb
            rw [HGV.o] at h1
            exact h1) (((HOK.o.grow hbw).item i hil).grow hb))
          have HIT : Hq ((remL ord (is.map Vt.m)).getD i default = remV ord is[i].m) := hq (by simp [remL_map, hil])
          have HYL : Hq (ys.length = j) := hq (by
            have h1 := congrArg List.length hys.o
            rw [List.length_map, List.length_map, List.length_take] at h1
            omega)
          have hyl : ys.length ≤ 1000000 := by have := HYL.o; omega
          have hszB := hI2.o.sz
          obtain ⟨c0, c1, c2, c3⟩ := four_cells hI2.o.hv
          obtain ⟨d0, d1, d2, d3⟩ := four_cells hI2.o.hw
          obtain ⟨a0, a1, a2, a3⟩ := hia
          have hiz : (i : Int) < (is.length : Int) := by omega
          have HOW := hq (show ∀ (V : World) (y : Vt), Below wc.heap.size wc V → y.Own 25 9 wc.heap.size (fun _ => True) V → y.Own 25 9 B (fun g => kr2.v.ownBlock ≠ some g ∧ (Value.slice p ys.length q).ownBlock ≠ some g) V from fun V y hb hy =>
            (hy.lt.base hszB).kind (fun g hg => ⟨fun e => by have h1 := (hI2.o.ks.lt g e).2; omega, fun e => by have h1 := (hI2.o.it.lt g e).2; omega⟩))
          obtain ⟨i1, hi1, hy0, hy1, hy2⟩ := info_partsV infoVv
          generalize is[i] = x at *
          subst ho
          go_wp2_with fail
          go_region_law (first
            | (refine step_atV rfl (.tmp 35) (.tmp 43) 23 rfl B 25 i1 (.agg #[.int .i64 0, .string ⟨#[]⟩, .slice none 0 0, .slice none 0 0]) 4 72 Tryz.underlying23 hi1 hy0 hy1 hy2 rfl (by decide) (.slice p ys.length q) ys.length (vtC ys) (by simp [Act.eval]) (HI9.o.it.alloc (.cells #[.int .i64 yk, .string (st yt), .slice yko ykl.length ykc, .slice yo yis.length yc] 25)) ⟨w9.heap.size, 0, none⟩ 1 1 [.int .i64 yk, .string (st yt), .slice yko ykl.length ykc, .slice yo yis.length yc] (by simp [Act.eval]) rfl (cells_of_new w9 [.int .i64 yk, .string (st yt), .slice yko ykl.length ykc, .slice yo yis.length yc] _) (by simp [Value.oneCell']) (by unfold maxLen; omega) (by omega) (by have h1 := HI9.o.sz; show B ≤ (w9.alloc _).heap.size; rw [World.size_alloc]; omega) ?_
               intro v' w6 hown6 hgrow6 hat6
               obtain ⟨g6, c6, rfl⟩ := row_shapeV1 hown6
               have hg6 : (w9.alloc (.cells #[.int .i64 yk, .string (st yt), .slice yko ykl.length ykc, .slice yo yis.length yc] 25)).grownBy w6 (Value.slice p ys.length q).ownBlock := ⟨hgrow6.os, hgrow6.tape, hgrow6.output, hgrow6.size, hgrow6.block⟩
               have hw6 := whole_grownV (HI9.o.hw.alloc (.cells #[.int .i64 yk, .string (st yt), .slice yko ykl.length ykc, .slice yo yis.length yc] 25)) hg6 (fun e => by have h1 := (HI9.o.it.lt _ e.symm).1; have h2 := HI9.o.l1.2; omega)
               have e6a := hw6.at_ 3
               have e6b := hw6.free 3)
            | (go_simp
               go_at_call 63
               refine (HC.o wc.drew (Below.refl _ _).drew).mono ?_
               rintro e9 w9 ⟨y, rfl, hyo, hym, hb9⟩
               obtain ⟨yk, yt, ⟨yko, ykc, ykl⟩, yo, yc, yis⟩ := y
               have HB9 := hq (show Below wc.heap.size wc w9 from below_trans (Below.refl _ _).drew hb9)
               have HI9 := hq (hI2.o.grow HB9.o)
               have HYO := hq hyo
               have HYM := hq hym
               obtain ⟨q0, q1, q2, q3⟩ := four_cells HI9.o.hw
               have q3a := (HI9.o.hw.alloc (.cells #[.int .i64 yk, .string (st yt), .slice yko ykl.length ykc, .slice yo yis.length yc] 25)).at_ 3
               clear hyo hym
               rw [Vt.v_mk']))
          all_goals
            have hI6 := (HI9.o.grow (below_alloc w9 (.cells #[.int .i64 yk, .string (st yt), .slice yko ykl.length ykc, .slice yo yis.length yc] 25))).item (x := Vt.mk yk yt ⟨yko, ykc, ykl⟩ yo yc yis) ((HOW.o w9 _ HB9.o HYO.o).grow (below_alloc w9 _)) hown6 hg6 hat6
            have HI6 := hq hI6
            have HYS := hq (show (ys ++ [Vt.mk yk yt ⟨yko, ykc, ykl⟩ yo yc yis]).map Vt.m = (od.take (j + 1)).map (fun i => (remL ord (is.map Vt.m)).getD i default) by
              rw [HTK.o, List.map_append, List.map_append, hys.o, List.map_cons, List.map_nil, List.map_cons, List.map_nil, HYM.o, HIT.o])
            clear hI6 hown6 hgrow6 hat6 hg6 hw6 e6a e6b q0 q1 q2 q3 q3a HI9 HYO HYM HB9 HOW HC HIH hys hI2 a0 a1 a2 a3 c0 c1 c2 c3 d0 d1 d2 d3
            go_simp
            generalize w6.setCell ⟨gv + 1 + 1, 3, none⟩ (.slice (some ⟨g6, 0, none⟩) (ys.length + 1) c6) = W7 at *
            go_wp2_with fail
            go_roundw
            case rel => exact ⟨j + 1, kr2, some ⟨g6, 0, none⟩, c6, ys ++ [Vt.mk yk yt ⟨yko, ykc, ykl⟩ yo yc yis], h, int_eq (by omega), HI6, hkr2, HYS⟩
            case measure => simp [intOf]; omega
    · have hz : ¬ (j : Int) < (od.length : Int) := by omega
      have HKR : Hq (kr.l = if k = 6 then od.map (keyAt kl) else []) := hq (by rw [hkr.o, List.take_of_length_le (by omega)])
      have HYE : Hq (ys.map Vt.m = od.map (fun i => (remL ord (is.map Vt.m)).getD i default)) := hq (by rw [hys.o, List.take_of_length_le (by omega)])
      obtain ⟨d0, d1, d2, d3⟩ := four_cells hI.o.hw
      obtain ⟨r0, r1, r2, r3⟩ := four_cells hI.o.hr
      have f0 := hI.o.hr.free 0
      have f1 := hI.o.hr.free 1
      have f2 := hI.o.hr.free 2
      have f3 := hI.o.hr.free 3
      clear hkr hys HIH HLT HKY HOK
      obtain ⟨ro, rc, rl⟩ := kr
      unfold SRow.v at d2
      simp only at d2
      have HL2 := hq hI.o.l2
      have HL0 := hq hI.o.l0
      have HOUT := hq (fun a b c d => (((((hI.o.out.set (g := gv + 1) (i := 0) HL2.o.2 a).set (g := gv + 1) (i := 1) HL2.o.2 b).set (g := gv + 1) (i := 2) HL2.o.2 c).set (g := gv + 1) (i := 3) HL2.o.2 d).base (Nat.le_of_lt HL0.o.2)))
      have HBL := hq (fun a b c d => below_put (below_put (below_put (below_put hI.o.bl HL2.o.1 0 a) HL2.o.1 1 b) HL2.o.1 2 c) HL2.o.1 3 d)
      have HM := hq (show (Vt.mk k t ⟨ro, rc, rl⟩ p q ys).m = .mk k t (if k = 6 then od.map (keyAt kl) else []) (od.map (fun i => (remL ord (is.map Vt.m)).getD i default)) from (Vt.m_mk k t ⟨ro, rc, rl⟩ p q ys).trans (by rw [HYE.o, ← HKR.o]))
      clear HKR HYE
      go_upto_region 9 with fail
      go_wp2_with fail
      refine bodyPost_ret (v := (Vt.mk k t ⟨ro, rc, rl⟩ p q ys).v) ?_ rfl ?_
      · simp [results, Tryz.results63, go_sem, r0, r1, r2, r3, Vt.v_mk']
      · refine HP.o _ _ (HOUT.o _ _ _ _) HM.o ?_
        have h1 := HBL.o (.int .i64 k) (.string (st t)) (.slice ro rl.length rc) (.slice p ys.length q)
        rw [HGV.o] at h1
        exact h1)
end Go.Proofs.YtfibmmmbpfnccaaGreatDoor
