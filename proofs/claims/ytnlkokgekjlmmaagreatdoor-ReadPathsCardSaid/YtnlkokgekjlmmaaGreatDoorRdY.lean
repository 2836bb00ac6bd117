/-
  WALK: the law ReadPaths.
-/
import Derived.Test.YtnlkokgekjlmmaaGreatDoorRdT
import Derived.Test.YtnlkokgekjlmmaaGreatDoorRdK
import Derived.Test.YtnlkokgekjlmmaaGreatDoorRdX
namespace Go.Proofs.YtnlkokgekjlmmaaGreatDoor
open Go.RowKit

theorem rd_fine {s : ByteArray} {ns : List JN} {v0 : Vl} {y : Vt} {V : World} (hy : y.Ok V) (hm : y.m = v0) (hv : Rv s ns 32 0 v0 ns.length) (hn : ns.length ≤ 4096) (hs : s.size ≤ 65536) : Fine y V :=
  ⟨hy, by rw [hm]; exact hv.lim hs, by rw [hm, (rv_right hv hn).2.1]; omega⟩
def TupV (m : Vl) (sz : Int) (a : Value) (W : World) : Prop := ∃ y : Vt, a = .tuple #[y.v, .int .i64 sz, .int .i64 0] ∧ y.Ok W ∧ y.m = m
theorem tup_fst {a b c a' b' c' : Value} (h : Value.tuple #[a, b, c] = .tuple #[a', b', c']) : a = a' := by
  injection h with h
  have := congrArg (fun x : Array Value => x[0]?) h
  simpa using this
def vcells (y : Vt) : Array Value := #[.int .i64 y.k, .string (st y.t), .slice y.ks.o y.ks.l.length y.ks.cap, .slice y.o y.is.length y.c]
def RY16 (s : ByteArray) (g7 gN n cN k na nb : Nat) (m : Vl) (sz : Int) (i : Nat) (v : Value) (lo hi : Nat) (W : World) : Prop := match i with
  | 0 => v = .agg #[.string s, .slice (some ⟨gN, 0, none⟩) n cN]
  | 1 => v = .pointer (some ⟨g7, 1, none⟩)
  | 2 => v = .slice (some ⟨gN, 0, none⟩) n cN
  | 3 => v = .int .i64 (k : Int)
  | 4 => v = .pointer (some ⟨gN, k * 7, none⟩)
  | 5 => v = .pointer (some ⟨gN, k * 7 + 1, none⟩)
  | 6 => v = .agg #[.int .i64 (na : Int), .int .i64 (nb : Int)]
  | 7 => v = .string (s.extract na nb)
  | 8 => TupV m sz v W
  | 9 => TupV m sz v W
  | 10 => IsVR m v W
  | 11 => v = .int .i64 sz
  | 12 => v = .int .i64 0
  | 13 => v = .pointer (some ⟨lo, 0, none⟩) ∧ hi = lo + 1 ∧ Whole W lo 25 #[.int .i64 0, .string ⟨#[]⟩, .slice none 0 0, .slice none 0 0]
  | 14 => hi = lo + 1 ∧ ∃ y : Vt, v = y.v ∧ Whole W lo 25 (vcells y)
  | 15 => v = .int .i64 sz
  | 16 => v = .int .i64 0
  | _ => True
set_option maxHeartbeats 32000000 in
set_option maxRecDepth 1000000 in
theorem rpaths_law (s : ByteArray) (p : SRow) (w : World) (hE : Env w) (hs : s.size ≤ maxLen) (hp : p.ok w) (hpt : Room p.l) : Calls Tryz.prog 11 #[.string s, p.v] w (BPost true w) := by
  obtain ⟨po, pc, pl⟩ := p
  have HSM : Hq (Calls Tryz.prog 29 #[] w (fun e W' => e = .returned (.bool true) ∧ Below w.heap.size w W')) := hq (small9_any w hE)
  have HSH := hq (fun V (hV : Below w.heap.size w V) => short_any po pc pl V hp.le hp.cp (hp.grow hV).rd hpt)
  have HFI : Hq (∀ W', Below w.heap.size w W' → BPost true w (.returned (.bool true)) W') := hq (fun W' h => ⟨rfl, h⟩)
  have hple : pl.length ≤ pc := hp.le
  have hpcp : pc ≤ maxLen := hp.cp
  generalize BPost true w = PP at *
  have head : ∀ Q : World → Prop, True := fun _ => trivial
  clear head
  by_cases hz : 4096 < s.size
  · have hz1 : (4096 : Int) < (s.size : Int) := by omega
    unfold maxLen at hs hpcp
    clear hE hp hpt
    go_enter Tryz.func11, Tryz.ntmps11
    go_wp2_with fail
    refine HSM.o.mono ?_
    rintro e w1 ⟨rfl, hb1⟩
    have HB1 := hq hb1
    clear hb1 HSM
    go_wp2_with fail
    refine (HSH.o w1 HB1.o).mono ?_
    rintro e w3 ⟨⟨vp, rfl, hvp⟩, hw3⟩
    obtain rfl := hw3.symm
    clear hw3 hvp HSH
    have HV := hq (HFI.o w1 HB1.o)
    clear HFI
    go_wp2_with fail
    first | exact HV.o | (go_ret; exact HV.o)
  have hz1 : ¬ (4096 : Int) < (s.size : Int) := by omega
  have h4 : s.size ≤ 4096 := by omega
  cases hpm : jparseM s with
  | inl q =>
    obtain ⟨wh, er⟩ := q
    have HPA : Hq (∀ V, Below w.heap.size w V → Calls Tryz.prog 34 #[.string s] V fun e W' => e = .returned (.tuple #[.agg #[.string ⟨#[]⟩, .slice none 0 0], .int .i64 (wh : Int), .int .i64 er]) ∧ Below V.heap.size V W') := hq (fun V hb => (jparse_any s V (hE.grow hb).tab hs).mono fun e w h => by unfold JParsePost at h; rw [hpm] at h; exact h)
    have HRD : Hq (∀ V, Below w.heap.size w V → Calls Tryz.prog 31 #[.string s] V fun e W' => e = .returned (.tuple #[.agg #[.int .i64 0, .string ⟨#[]⟩, .slice none 0 0, .slice none 0 0], .int .i64 (wh : Int), .int .i64 er]) ∧ Below V.heap.size V W') := hq (fun V hb => (readRead_any s V (hE.grow hb) hs).mono fun e w h => by unfold RReadPost at h; rw [hpm] at h; exact h)
    have her : er ≠ 0 := jparseM_er hpm
    have e0 : (er != 0) = true := by simpa using her
    unfold maxLen at hs hpcp
    clear hE hp hpt hpm her hz h4
    go_enter Tryz.func11, Tryz.ntmps11
    go_wp2_with fail
    refine HSM.o.mono ?_
    rintro e w1 ⟨rfl, hb1⟩
    have HB1 := hq hb1
    clear hb1 HSM
    go_wp2_with fail
    refine (HSH.o w1 HB1.o).mono ?_
    rintro e w3 ⟨⟨vp, rfl, hvp⟩, hw3⟩
    obtain rfl := hw3.symm
    clear hw3 hvp HSH
    cases vp with
    | false =>
      have HV := hq (HFI.o w1 HB1.o)
      clear HFI HPA HRD
      go_wp2_with fail
      first | exact HV.o | (go_ret; exact HV.o)
    | true =>
    go_wp2_with fail
    refine (HPA.o w1 HB1.o).mono ?_
    rintro e w4 ⟨rfl, hb4⟩
    have HB4 := hq (below_trans (below_trans HB1.o hb4) (below_alloc w4 (.cells #[.string ⟨#[]⟩, .slice none 0 0] 46)))
    clear hb4 HPA
    go_upto_region 6 with fail
    generalize (w4.alloc (.cells #[.string ⟨#[]⟩, .slice none 0 0] 46)) = w5 at *
    go_wp2_with fail
    refine (HRD.o w5 HB4.o).mono ?_
    rintro e w6 ⟨rfl, hb6⟩
    have HB6 := hq (below_trans (below_trans HB4.o hb6) (below_alloc w6 (.cells #[.int .i64 0, .string ⟨#[]⟩, .slice none 0 0, .slice none 0 0] 25)))
    clear hb6 HRD
    have HV := hq (HFI.o _ HB6.o)
    clear HFI
    go_wp2_with fail
    first | exact HV.o | (go_ret; exact HV.o)
  | inr ns =>
    obtain ⟨v0, hv0⟩ := (jparseM_rv hpm).1
    have hnl := parsed_nodes hpm h4
    have h64 := parsed_size hpm
    have hAF := at_find hv0 hnl pl
    have HPA : Hq (∀ V, Below w.heap.size w V → Calls Tryz.prog 34 #[.string s] V fun e W' => ∃ nv gN cN, e = .returned (.tuple #[.agg #[.string s, .slice (some ⟨gN, 0, none⟩) nv.length cN], .int .i64 (s.size : Int), .int .i64 0]) ∧ (DocR nv gN cN W' ∧ nv.map (·.n) = ns ∧ 0 < nv.length) ∧ Below V.heap.size V W') := hq (fun V hb => (jparse_any s V (hE.grow hb).tab hs).mono fun e W' h => by
      unfold JParsePost at h
      rw [hpm] at h
      obtain ⟨nv, vN, h1, h2, h3, h5⟩ := h
      obtain ⟨h0, g, c, rfl, h6⟩ := doc_r hpm h2 h3
      exact ⟨nv, g, c, h1, ⟨h6, h3, h0⟩, h5⟩)
    have HRD := hq (fun V (hb : Below w.heap.size w V) => reads_is hpm hv0 w V hE hb hs)
    have HAT := hq (fun (V : World) (hV : Below w.heap.size w V) (nv : List NV) (gN cN : Nat) (hD : DocR nv gN cN V) (hn : nv.map (·.n) = ns) (h0 : 0 < nv.length) => (show Calls Tryz.prog 38 #[.agg #[.string s, .slice (some ⟨gN, 0, none⟩) nv.length cN], .slice po pl.length pc] V (fun e W' => e = .returned (.tuple #[.int .i64 (((atP s ns pl).getD 0 : Nat) : Int), .bool (atP s ns pl).isSome]) ∧ Below V.heap.size V W') from (readAt_any s nv gN cN V (hE.grow hV) h64 hD h0 (fun i hi => by
      rw [hn]
      obtain ⟨v, c, h, _⟩ := (jparseM_rv hpm).2 i (by have := congrArg List.length hn; rw [List.length_map] at this; omega)
      exact ⟨v, c, h⟩) ⟨po, pc, pl⟩ (hp.grow hV) hpt).mono (fun e W' h => by rw [hn] at h; exact h)))
    have hfine : ∀ (y : Vt) V, y.Ok V → y.m = v0 → Fine y V := fun y V hy hm => rd_fine hy hm hv0 hnl h64
    have hfrg : ((pfindM v0 pl).getD zeroL).All Vl.Rng := by
      cases hq1 : atP s ns pl with
      | none => rw [hAF.2 hq1]; exact rng_small (by kernel_rfl)
      | some j =>
        obtain ⟨_, u, _, h1, h2⟩ := hAF.1 j hq1
        rw [h1]; exact h2.rng h64
    have HFN := hq (fun (V : World) (hV : Below w.heap.size w V) (y : Vt) (hy : y.Ok V) (hm : y.m = v0) => (pFind_any y po pc pl V (hE.grow hV) (hfine y V hy hm) (hp.grow hV) hpt).mono (R' := fun e W' => ∃ z : Vt, e = .returned (.tuple #[z.v, .bool (pfindM v0 pl).isSome]) ∧ (z.Ok W' ∧ z.m = (pfindM v0 pl).getD zeroL) ∧ Below V.heap.size V W') (fun e W' h => by
      rw [hm] at h
      obtain ⟨z, h1, h2, h3, h5⟩ := h
      have h6 := h2.ok (by rw [h3]; exact hfrg)
      exact ⟨z, h1, ⟨h6, h3⟩, h5⟩))
    cases hat : atP s ns pl with
    | none =>
      have hfn := hAF.2 hat
      rw [hat] at HAT
      rw [hfn] at HFN
      simp only [Option.isSome_none, Option.getD_none] at HAT HFN
      clear hAF hat hfn hfine hfrg
      unfold maxLen at hs hpcp
      clear hE hp hpt hz h4
      go_enter Tryz.func11, Tryz.ntmps11
      go_wp2_with fail
      refine HSM.o.mono ?_
      rintro e w1 ⟨rfl, hb1⟩
      have HB1 := hq hb1
      clear hb1 HSM
      go_wp2_with fail
      refine (HSH.o w1 HB1.o).mono ?_
      rintro e w3 ⟨⟨vp, rfl, hvp⟩, hw3⟩
      obtain rfl := hw3.symm
      clear hw3 hvp HSH
      cases vp with
      | false =>
        have HV := hq (HFI.o w1 HB1.o)
        clear HFI HPA HRD HAT HFN
        go_wp2_with fail
        first | exact HV.o | (go_ret; exact HV.o)
      | true =>
      go_wp2_with fail
      refine (HPA.o w1 HB1.o).mono ?_
      rintro e w4 ⟨nv, gN, cN, rfl, ⟨hD4, hn4, hp4⟩, hb4⟩
      have HNV := hq hn4
      have HPV := hq hp4
      have hba := below_alloc w4 (.cells #[.string s, .slice (some ⟨gN, 0, none⟩) nv.length cN] 46)
      have HB5 := hq (below_trans (below_trans HB1.o hb4) hba)
      have HD5 := hq (hD4.grow hba)
      have HX5 := hq (Whole.made w4 46 #[.string s, .slice (some ⟨gN, 0, none⟩) nv.length cN])
      clear hb4 hba hD4 hn4 hp4 HPA HB1
      go_upto_region 6 with fail
      generalize (w4.alloc (.cells #[.string s, .slice (some ⟨gN, 0, none⟩) nv.length cN] 46)) = w5 at *
      generalize w4.heap.size = g7 at *
      go_wp2_with fail
      refine (HRD.o w5 HB5.o).mono ?_
      rintro e w6 ⟨y, rfl, ⟨hyo, hym⟩, hb6⟩
      have HFY := hq (fun V (hV : Below w.heap.size w V) (hy : y.Ok V) => HFN.o V hV y hy hym)
      obtain ⟨yk, yt, ⟨yko, ykc, ykl⟩, yo, yc, yis⟩ := y
      rw [Vt.v_mk'] at *
      have hba := below_alloc w6 (.cells #[.int .i64 yk, .string (st yt), .slice yko ykl.length ykc, .slice yo yis.length yc] 25)
      have HB7 := hq (below_trans (below_trans HB5.o hb6) hba)
      have HD7 := hq ((HD5.o.grow hb6).grow hba)
      have HX7 := hq ((HX5.o.grow hb6).grow hba)
      have HO7 := hq (hyo.grow hba)
      have HY7 := hq (Whole.made w6 25 #[.int .i64 yk, .string (st yt), .slice yko ykl.length ykc, .slice yo yis.length yc])
      clear hb6 hba hyo hym HRD HB5 HD5 HX5 HFN
      go_upto_region 7 with fail
      generalize (w6.alloc (.cells #[.int .i64 yk, .string (st yt), .slice yko ykl.length ykc, .slice yo yis.length yc] 25)) = w7 at *
      generalize w6.heap.size = g10 at *
      have x0 := HX7.o.at_ 0
      have x1 := HX7.o.at_ 1
      go_wp2_with fail
      refine (HAT.o w7 HB7.o nv gN cN HD7.o HNV.o HPV.o).mono ?_
      rintro e w8 ⟨rfl, hb8⟩
      have HB8 := hq (below_trans HB7.o hb8)
      have HD8 := hq (HD7.o.grow hb8)
      have HX8 := hq (HX7.o.grow hb8)
      have HO8 := hq (HO7.o.grow hb8)
      have HY8 := hq (HY7.o.grow hb8)
      clear hb8 HB7 HD7 HX7 HO7 HY7 HAT x0 x1
      obtain ⟨y0, y1, y2, y3⟩ := four_cells HY8.o
      go_wp2_with fail
      refine (HFY.o w8 HB8.o HO8.o).mono ?_
      rintro e w9 ⟨z, rfl, ⟨hzo, hzm⟩, hb9⟩
      have HZI := hq (show IsVR _ z.v w9 from ⟨z, rfl, hzo, hzm⟩)
      obtain ⟨zk, zt, ⟨zko, zkc, zkl⟩, zo, zc, zis⟩ := z
      rw [Vt.v_mk'] at HZI ⊢
      have hba := below_alloc w9 (.cells #[.int .i64 zk, .string (st zt), .slice zko zkl.length zkc, .slice zo zis.length zc] 25)
      have HB10 := hq (below_trans (below_trans HB8.o hb9) hba)
      have HD10 := hq ((HD8.o.grow hb9).grow hba)
      have HX10 := hq ((HX8.o.grow hb9).grow hba)
      have HZ10 := hq (Whole.made w9 25 #[.int .i64 zk, .string (st zt), .slice zko zkl.length zkc, .slice zo zis.length zc])
      have HI10 := hq (HZI.o.growR hba)
      clear hb9 hba hzo hzm HB8 HD8 HX8 HO8 HY8 HFY HZI y0 y1 y2 y3
      go_upto_region 11 with fail
      generalize (w9.alloc (.cells #[.int .i64 zk, .string (st zt), .slice zko zkl.length zkc, .slice zo zis.length zc] 25)) = w10 at *
      generalize w9.heap.size = g15 at *
      have HV := hq (HFI.o w10 HB10.o)
      clear HFI HD10 HX10 HZ10 HI10 HB10
      go_wp2_with fail
      first | exact HV.o | (go_ret; exact HV.o)
    | some kk =>
      obtain ⟨d', wv, c', hfn, hrv⟩ := hAF.1 kk hat
      rw [hat] at HAT
      rw [hfn] at HFN
      simp only [Option.isSome_some, Option.getD_some] at HAT HFN
      obtain ⟨x, hx⟩ : ∃ x, ns[kk]? = some x := ⟨_, List.getElem?_eq_getElem hrv.lt⟩
      obtain ⟨wv', cc, hr32, hcc⟩ := (jparseM_rv hpm).2 kk hrv.lt
      obtain ⟨rfl, _⟩ := hrv.one hr32
      have hkl : kk < ns.length := hrv.lt
      obtain ⟨hxa, hxb, cs, hcs, hrc⟩ := read_alone hpm h4 hx hrv
      have HND := hq (fun (V : World) (hV : Below w.heap.size w V) (nv : List NV) (gN cN : Nat) (hD : DocR nv gN cN V) (hn : nv.map (·.n) = ns) => (readNode_any s nv gN cN V (hE.grow hV) h64 hD (k := kk) (by rw [hn]; exact hr32) (by have := congrArg List.length hn; rw [List.length_map] at this; omega)).mono (R' := fun e W' => ∃ z : Vt, e = .returned (.tuple #[z.v, .bool true]) ∧ (z.Ok W' ∧ z.m = wv) ∧ Below V.heap.size V W') (fun e W' h => by
        obtain ⟨z, h1, h2, h3, h5⟩ := h
        exact ⟨z, h1, ⟨h2.ok (by rw [h3]; exact hr32.rng h64), h3⟩, h5⟩))
      have HSL := hq (fun (V : World) (nv : List NV) (gN cN : Nat) => (show Calls Tryz.prog 41 #[.agg #[.string s, .slice (some ⟨gN, 0, none⟩) nv.length cN], .agg #[.int .i64 (x.a : Int), .int .i64 (x.b : Int)]] V (fun e W' => e = .returned (.string (s.extract x.a x.b)) ∧ Below V.heap.size V W') from by
        have h := jslice_any s (.slice (some ⟨gN, 0, none⟩) nv.length cN) ⟨_, _, _, rfl⟩ (x.a : Int) (x.b : Int) V hs (by omega) (by omega)
        rw [slice_in hxa hxb] at h
        exact h))
      have hxz : (s.extract x.a x.b).size ≤ 4096 := by rw [ByteArray.size_extract]; omega
      have HRA := hq (fun V (hb : Below w.heap.size w V) => (readRead_any (s.extract x.a x.b) V (hE.grow hb) (by unfold maxLen; omega)).mono (R' := fun e W' => ∃ y : Vt, e = .returned (.tuple #[y.v, .int .i64 ((s.extract x.a x.b).size : Int), .int .i64 0]) ∧ (y.Own 25 9 V.heap.size (fun _ => True) W' ∧ y.m = wv) ∧ Below V.heap.size V W') (fun e W' h => by
        unfold RReadPost at h
        rw [hcs] at h
        obtain ⟨y, u, h1, h2, h3, h5, h6⟩ := h
        obtain ⟨rfl, _⟩ := h1.one hrc
        exact ⟨y, h2, ⟨h3, h5⟩, h6⟩))
      have HRG := hq (hr32.rng h64)
      have HNC : Hq (∀ (V : World) (nv : List NV) (gN cN : Nat), DocR nv gN cN V → nv.map (·.n) = ns → nv.length = ns.length ∧ nv.length ≤ cN ∧ cN ≤ 9223372036854775807 ∧ V.cell? ⟨gN, kk * 7 + 1, none⟩ = some (.int .i64 (x.a : Int)) ∧ V.cell? ⟨gN, kk * 7 + 2, none⟩ = some (.int .i64 (x.b : Int))) := hq (fun V nv gN cN hD hn => by
        have hl := congrArg List.length hn
        rw [List.length_map] at hl
        have hk : kk < nv.length := by omega
        have h1 := hD.node hk
        have h2 : nv[kk].n = x := by
          rw [← hn, List.getElem?_map, List.getElem?_eq_getElem hk] at hx
          exact Option.some.inj hx
        have h3 := hD.cp
        unfold maxLen at h3
        rw [h2] at h1
        exact ⟨hl, hD.le, by omega, h1.2.1, h1.2.2.1⟩)
      have hna : x.a ≤ 4096 := by omega
      have hnb : x.b ≤ 4096 := by omega
      clear hAF hat hfn hfine hfrg hrv hr32 hcc hx hcs hrc hpm hv0
      generalize x.a = na at *
      generalize x.b = nb at *
      generalize (s.extract na nb).size = sz at *
      unfold maxLen at hs hpcp
      clear hE hp hpt hz h4
      go_enter Tryz.func11, Tryz.ntmps11
      go_wp2_with fail
      refine HSM.o.mono ?_
      rintro e w1 ⟨rfl, hb1⟩
      have HB1 := hq hb1
      clear hb1 HSM
      go_wp2_with fail
      refine (HSH.o w1 HB1.o).mono ?_
      rintro e w3 ⟨⟨vp, rfl, hvp⟩, hw3⟩
      obtain rfl := hw3.symm
      clear hw3 hvp HSH
      cases vp with
      | false =>
        have HV := hq (HFI.o w1 HB1.o)
        clear HFI HPA HRD HAT HFN HND HSL HRA HNC
        go_wp2_with fail
        first | exact HV.o | (go_ret; exact HV.o)
      | true =>
      go_wp2_with fail
      refine (HPA.o w1 HB1.o).mono ?_
      rintro e w4 ⟨nv, gN, cN, rfl, ⟨hD4, hn4, hp4⟩, hb4⟩
      have HNV := hq hn4
      have HPV := hq hp4
      have hba := below_alloc w4 (.cells #[.string s, .slice (some ⟨gN, 0, none⟩) nv.length cN] 46)
      have HB5 := hq (below_trans (below_trans HB1.o hb4) hba)
      have HD5 := hq (hD4.grow hba)
      have HX5 := hq (Whole.made w4 46 #[.string s, .slice (some ⟨gN, 0, none⟩) nv.length cN])
      clear hb4 hba hD4 hn4 hp4 HPA HB1
      go_upto_region 6 with fail
      generalize (w4.alloc (.cells #[.string s, .slice (some ⟨gN, 0, none⟩) nv.length cN] 46)) = w5 at *
      generalize w4.heap.size = g7 at *
      go_wp2_with fail
      refine (HRD.o w5 HB5.o).mono ?_
      rintro e w6 ⟨y, rfl, ⟨hyo, hym⟩, hb6⟩
      have HFY := hq (fun V (hV : Below w.heap.size w V) (hy : y.Ok V) => HFN.o V hV y hy hym)
      obtain ⟨yk, yt, ⟨yko, ykc, ykl⟩, yo, yc, yis⟩ := y
      rw [Vt.v_mk'] at *
      have hba := below_alloc w6 (.cells #[.int .i64 yk, .string (st yt), .slice yko ykl.length ykc, .slice yo yis.length yc] 25)
      have HB7 := hq (below_trans (below_trans HB5.o hb6) hba)
      have HD7 := hq ((HD5.o.grow hb6).grow hba)
      have HX7 := hq ((HX5.o.grow hb6).grow hba)
      have HO7 := hq (hyo.grow hba)
      have HY7 := hq (Whole.made w6 25 #[.int .i64 yk, .string (st yt), .slice yko ykl.length ykc, .slice yo yis.length yc])
      clear hb6 hba hyo hym HRD HB5 HD5 HX5 HFN
      go_upto_region 7 with fail
      generalize (w6.alloc (.cells #[.int .i64 yk, .string (st yt), .slice yko ykl.length ykc, .slice yo yis.length yc] 25)) = w7 at *
      generalize w6.heap.size = g10 at *
      have x0 := HX7.o.at_ 0
      have x1 := HX7.o.at_ 1
      go_wp2_with fail
      refine (HAT.o w7 HB7.o nv gN cN HD7.o HNV.o HPV.o).mono ?_
      rintro e w8 ⟨rfl, hb8⟩
      have HB8 := hq (below_trans HB7.o hb8)
      have HD8 := hq (HD7.o.grow hb8)
      have HX8 := hq (HX7.o.grow hb8)
      have HO8 := hq (HO7.o.grow hb8)
      have HY8 := hq (HY7.o.grow hb8)
      clear hb8 HB7 HD7 HX7 HO7 HY7 HAT x0 x1
      obtain ⟨y0, y1, y2, y3⟩ := four_cells HY8.o
      go_wp2_with fail
      refine (HFY.o w8 HB8.o HO8.o).mono ?_
      rintro e w9 ⟨z, rfl, ⟨hzo, hzm⟩, hb9⟩
      have HZI := hq (show IsVR _ z.v w9 from ⟨z, rfl, hzo, hzm⟩)
      obtain ⟨zk, zt, ⟨zko, zkc, zkl⟩, zo, zc, zis⟩ := z
      rw [Vt.v_mk'] at HZI ⊢
      have hba := below_alloc w9 (.cells #[.int .i64 zk, .string (st zt), .slice zko zkl.length zkc, .slice zo zis.length zc] 25)
      have HB10 := hq (below_trans (below_trans HB8.o hb9) hba)
      have HD10 := hq ((HD8.o.grow hb9).grow hba)
      have HX10 := hq ((HX8.o.grow hb9).grow hba)
      have HZ10 := hq (Whole.made w9 25 #[.int .i64 zk, .string (st zt), .slice zko zkl.length zkc, .slice zo zis.length zc])
      have HI10 := hq (HZI.o.growR hba)
      clear hb9 hba hzo hzm HB8 HD8 HX8 HO8 HY8 HFY HZI y0 y1 y2 y3
      go_upto_region 11 with fail
      generalize (w9.alloc (.cells #[.int .i64 zk, .string (st zt), .slice zko zkl.length zkc, .slice zo zis.length zc] 25)) = w10 at *
      generalize w9.heap.size = g15 at *
      obtain ⟨hnl2, hcn1, hcn2, _, _⟩ := HNC.o w10 nv gN cN HD10.o HNV.o
      have k1 : ¬ ((kk : Int) < 0) := by omega
      have k2 : ¬ ((nv.length : Int) ≤ (kk : Int)) := by omega
      have hkn : kk < nv.length := by omega
      clear hnl2
      have x0 := HX10.o.at_ 0
      have x1 := HX10.o.at_ 1
      go_wp2_with fail
      refine (HND.o w10 HB10.o nv gN cN HD10.o HNV.o).mono ?_
      rintro e w11 ⟨u, rfl, ⟨huo, hum⟩, hb11⟩
      have HUI := hq (show IsVR _ u.v w11 from ⟨u, rfl, huo, hum⟩)
      obtain ⟨uk, ut, ⟨uko, ukc, ukl⟩, uo, uc, uis⟩ := u
      rw [Vt.v_mk'] at HUI ⊢
      have hba := below_alloc w11 (.cells #[.int .i64 uk, .string (st ut), .slice uko ukl.length ukc, .slice uo uis.length uc] 25)
      have HB12 := hq (below_trans (below_trans HB10.o hb11) hba)
      have HD12 := hq ((HD10.o.grow hb11).grow hba)
      have HX12 := hq ((HX10.o.grow hb11).grow hba)
      have HZ12 := hq ((HZ10.o.grow hb11).grow hba)
      have HI12 := hq ((HI10.o.growR hb11).growR hba)
      have HU12 := hq (Whole.made w11 25 #[.int .i64 uk, .string (st ut), .slice uko ukl.length ukc, .slice uo uis.length uc])
      have HJ12 := hq (HUI.o.growR hba)
      clear hb11 hba huo hum HB10 HD10 HX10 HZ10 HI10 HUI HND x0 x1
      go_upto_region 16 with fail
      generalize (w11.alloc (.cells #[.int .i64 uk, .string (st ut), .slice uko ukl.length ukc, .slice uo uis.length uc] 25)) = w12 at *
      generalize w11.heap.size = g17 at *
      refine go_flowT (by kernel_rfl) [(0, 92), (1, 93), (2, 94), (3, 95), (4, 96), (5, 97), (6, 98), (7, 99), (8, 100), (9, 91), (10, 101), (11, 102), (12, 103), (13, 19), (15, 20), (16, 21)] [[0], [1], [2, 1], [3], [4, 2, 1, 3], [5, 4, 2, 1, 3], [6, 5, 4, 2, 1, 3], [7, 0, 6, 5, 4, 2, 1, 3], [8, 7, 0, 6, 5, 4, 2, 1, 3], [9, 8, 7, 0, 6, 5, 4, 2, 1, 3], [10, 9, 8, 7, 0, 6, 5, 4, 2, 1, 3], [11, 9, 8, 7, 0, 6, 5, 4, 2, 1, 3], [12, 9, 8, 7, 0, 6, 5, 4, 2, 1, 3], [13], [14], [15, 11, 9, 8, 7, 0, 6, 5, 4, 2, 1, 3], [16, 12, 9, 8, 7, 0, 6, 5, 4, 2, 1, 3]] [(14, 13)] [[], [], [], [], [], [], [], [], [], [], [], [], [], [], [10], [], []] (RY16 s g7 gN nv.length cN kk na nb wv (sz : Int)) [(14, 10)] (fun _ v lo hi => v = .pointer (some ⟨lo, 0, none⟩) ∧ hi = lo + 1) ?A ?hA ?hRB (by kernel_rfl) (by kernel_rfl) ?hs ?ht ?he
      case hA =>
        intro f
        simp only [putS]
        go_simp
        rfl
      case hRB =>
        intro x hx v lo hi W h
        obtain rfl := List.mem_singleton.1 hx
        exact ⟨h.1, h.2.1⟩
      case hs =>
        refine Steps.cons rfl ?_ (Steps.cons rfl ?_ (Steps.cons rfl ?_ (Steps.cons rfl ?_ (Steps.cons rfl ?_ (Steps.cons rfl ?_ (Steps.cons rfl ?_ (Steps.cons rfl ?_ (Steps.cons rfl ?_ (Steps.cons rfl ?_ (Steps.cons rfl ?_ (Steps.cons rfl ?_ (Steps.cons rfl ?_ (Steps.cons rfl ?_ (Steps.cons rfl ?_ (Steps.cons rfl ?_ Steps.nil)))))))))))))))
        · intro f lo hi W2 hb hd K hK
          rw [if_pos (by rfl)]
          have x0 := (HX12.o.grow hb).at_ 0
          have x1 := (HX12.o.grow hb).at_ 1
          go_simp
          exact hK _ _ (Below.refl _ _) (fun V _ _ _ _ => rfl)
        · intro f lo hi W2 hb hd K hK
          rw [if_pos (by rfl)]
          go_simp
          exact hK _ _ (Below.refl _ _) (fun V _ _ _ _ => rfl)
        · intro f lo hi W2 hb hd K hK
          rw [if_pos (by rfl)]
          have e1 : f 1 = _ := (hd 1 (by decide) (by decide))
          clear hd
          try dsimp only at hK
          generalize f 1 = x1 at e1 hK ⊢
          subst e1
          have x0 := (HX12.o.grow hb).at_ 0
          have x1 := (HX12.o.grow hb).at_ 1
          go_simp
          exact hK _ _ (Below.refl _ _) (fun V _ _ _ _ => rfl)
        · intro f lo hi W2 hb hd K hK
          rw [if_pos (by rfl)]
          go_simp
          exact hK _ _ (Below.refl _ _) (fun V _ _ _ _ => rfl)
        · intro f lo hi W2 hb hd K hK
          rw [if_pos (by rfl)]
          have e2 : f 2 = _ := (hd 2 (by decide) (by decide))
          have e3 : f 3 = _ := (hd 3 (by decide) (by decide))
          clear hd
          try dsimp only at hK
          generalize f 2 = x2 at e2 hK ⊢
          generalize f 3 = x3 at e3 hK ⊢
          subst e2
          subst e3
          go_simp
          exact hK _ _ (Below.refl _ _) (fun V _ _ _ _ => rfl)
        · intro f lo hi W2 hb hd K hK
          rw [if_pos (by rfl)]
          have e4 : f 4 = _ := (hd 4 (by decide) (by decide))
          clear hd
          try dsimp only at hK
          generalize f 4 = x4 at e4 hK ⊢
          subst e4
          go_simp
          exact hK _ _ (Below.refl _ _) (fun V _ _ _ _ => rfl)
        · intro f lo hi W2 hb hd K hK
          rw [if_pos (by rfl)]
          have e5 : f 5 = _ := (hd 5 (by decide) (by decide))
          clear hd
          try dsimp only at hK
          generalize f 5 = x5 at e5 hK ⊢
          subst e5
          obtain ⟨-, -, -, n1, n2⟩ := HNC.o W2 nv gN cN (HD12.o.grow hb) HNV.o
          go_simp
          exact hK _ _ (Below.refl _ _) (fun V _ _ _ _ => rfl)
        · intro f lo hi W2 hb hd K hK
          rw [if_pos (by rfl)]
          have e0 : f 0 = _ := (hd 0 (by decide) (by decide))
          have e6 : f 6 = _ := (hd 6 (by decide) (by decide))
          clear hd
          try dsimp only at hK
          generalize f 0 = x0 at e0 hK ⊢
          generalize f 6 = x6 at e6 hK ⊢
          subst e0
          subst e6
          go_simp
          refine (HSL.o W2 nv gN cN).mono ?_
          rintro e w2 ⟨rfl, hb2⟩
          exact hK _ _ hb2 (fun V _ _ _ _ => rfl)
        · intro f lo hi W2 hb hd K hK
          rw [if_pos (by rfl)]
          have e7 : f 7 = _ := hd 7 (by decide) (by decide)
          clear hd
          try dsimp only at hK
          generalize f 7 = x7 at e7 hK ⊢
          subst e7
          go_simp
          refine (HRA.o W2 (below_trans HB12.o hb)).mono ?_
          rintro e w2 ⟨y, rfl, ⟨hyo, hym⟩, hb2⟩
          exact hK _ _ hb2 (fun U _ _ hbl _ => ⟨y, rfl, (own_same hyo (fun g h1 h2 => hbl g h1 h2)).ok (by rw [hym]; exact HRG.o), hym⟩)
        · intro f lo hi W2 hb hd K hK
          rw [if_pos (by rfl)]
          obtain ⟨y, e8, _, _⟩ := hd 8 (by decide) (by decide)
          have HL : Hq (∀ U, (∀ j ∈ [9, 8, 7, 0, 6, 5, 4, 2, 1, 3], j ≠ 9 → RY16 s g7 gN nv.length cN kk na nb wv (sz : Int) j (f j) (lo j) (hi j) U) → TupV wv (sz : Int) (f 8) U) := hq (fun U h => h 8 (by decide) (by decide))
          clear hd
          try dsimp only at hK
          generalize f 8 = x8 at e8 hK HL ⊢
          subst e8
          go_simp
          exact hK _ _ (Below.refl _ _) (fun U _ _ _ h => HL.o U h)
        · intro f lo hi W2 hb hd K hK
          rw [if_pos (by rfl)]
          obtain ⟨y, e9, _, _⟩ := hd 9 (by decide) (by decide)
          have HL : Hq (∀ U, (∀ j ∈ [10, 9, 8, 7, 0, 6, 5, 4, 2, 1, 3], j ≠ 10 → RY16 s g7 gN nv.length cN kk na nb wv (sz : Int) j (f j) (lo j) (hi j) U) → TupV wv (sz : Int) (f 9) U) := hq (fun U h => h 9 (by decide) (by decide))
          clear hd
          try dsimp only at hK
          generalize f 9 = x9 at e9 hK HL ⊢
          subst e9
          go_simp
          exact hK _ _ (Below.refl _ _) (fun U _ _ _ h => by obtain ⟨y2, h1, h2, h3⟩ := HL.o U h; exact ⟨y2, tup_fst h1, h2, h3⟩)
        · intro f lo hi W2 hb hd K hK
          rw [if_pos (by rfl)]
          obtain ⟨y, e9, _, _⟩ := hd 9 (by decide) (by decide)
          have HL : Hq (∀ U, (∀ j ∈ [11, 9, 8, 7, 0, 6, 5, 4, 2, 1, 3], j ≠ 11 → RY16 s g7 gN nv.length cN kk na nb wv (sz : Int) j (f j) (lo j) (hi j) U) → TupV wv (sz : Int) (f 9) U) := hq (fun U h => h 9 (by decide) (by decide))
          clear hd
          try dsimp only at hK
          generalize f 9 = x9 at e9 hK HL ⊢
          subst e9
          go_simp
          exact hK _ _ (Below.refl _ _) (fun U _ _ _ _ => rfl)
        · intro f lo hi W2 hb hd K hK
          rw [if_pos (by rfl)]
          obtain ⟨y, e9, _, _⟩ := hd 9 (by decide) (by decide)
          have HL : Hq (∀ U, (∀ j ∈ [12, 9, 8, 7, 0, 6, 5, 4, 2, 1, 3], j ≠ 12 → RY16 s g7 gN nv.length cN kk na nb wv (sz : Int) j (f j) (lo j) (hi j) U) → TupV wv (sz : Int) (f 9) U) := hq (fun U h => h 9 (by decide) (by decide))
          clear hd
          try dsimp only at hK
          generalize f 9 = x9 at e9 hK HL ⊢
          subst e9
          go_simp
          exact hK _ _ (Below.refl _ _) (fun U _ _ _ _ => rfl)
        · intro f lo hi W2 hb hd K hK
          rw [if_pos (by rfl)]
          go_simp
          exact hK _ _ (below_alloc _ _) (fun V _ _ h _ => ⟨rfl, World.size_alloc _ _, whole_newF h⟩)
        · intro f lo hi W2 hb hd K hK
          rw [if_pos (by rfl)]
          have e11 : f 11 = _ := (hd 11 (by decide) (by decide))
          clear hd
          try dsimp only at hK
          generalize f 11 = x11 at e11 hK ⊢
          subst e11
          go_simp
          exact hK _ _ (Below.refl _ _) (fun V _ _ _ _ => rfl)
        · intro f lo hi W2 hb hd K hK
          rw [if_pos (by rfl)]
          have e12 : f 12 = _ := (hd 12 (by decide) (by decide))
          clear hd
          try dsimp only at hK
          generalize f 12 = x12 at e12 hK ⊢
          subst e12
          go_simp
          exact hK _ _ (Below.refl _ _) (fun V _ _ _ _ => rfl)
      case ht =>
        refine StoresT.cons rfl ?_ StoresT.nil
        · intro f lo hi W2 hb hlo hd K hK
          obtain ⟨y, e10, _, _⟩ := hd 10 (by decide)
          have esv : svF [(14, 10)] 14 = 10 := rfl
          rw [esv] at hK
          obtain ⟨e13, e13b, hz⟩ := hd 13 (by decide)
          clear hd
          generalize f 10 = x10 at e10 hK ⊢
          generalize f 13 = x13 at e13 hK ⊢
          generalize hi 13 = h13 at *
          generalize lo 13 = l13 at *
          subst e13
          subst e13b
          obtain ⟨yk, yt, ⟨yko, ykc, ykl⟩, yo, yc, yis⟩ := y
          rw [Vt.v_mk'] at e10
          subst e10
          obtain ⟨z0, z1, z2, z3⟩ := four_cells hz
          have f0 := hz.free 0
          have f1 := hz.free 1
          have f2 := hz.free 2
          have f3 := hz.free 3
          go_simp
          refine hK _ (below_put4 hb hlo _ _ _ _) (by simp [World.setCell]) (fun b hb1 hn => ?_) (fun U hU hsz hbl => ⟨rfl, .mk yk yt ⟨yko, ykc, ykl⟩ yo yc yis, by rw [Vt.v_mk'], ?_⟩)
          · have hne : b ≠ l13 := fun e => hn ⟨by omega, by omega⟩
            rw [Below.heap_setCell _ _ _ _ hne, Below.heap_setCell _ _ _ _ hne, Below.heap_setCell _ _ _ _ hne, Below.heap_setCell _ _ _ _ hne]
          · exact (hbl l13 (Nat.le_refl _) (Nat.lt_succ_self _)).trans (whole_put4S hz _ _ _ _)
      case he =>
        intro f lo hi W2 hb hR hbx
        obtain ⟨e14, zv, hz14, hw14⟩ := hR 14 (.inr (by decide))
        obtain ⟨z2, hz10, hzo14, hzm14⟩ := hR 10 (.inl ⟨by decide, by decide⟩)
        have hzv : zv.v = z2.v := hz14.symm.trans hz10
        have e15 : f 15 = _ := hR 15 (.inl ⟨by decide, by decide⟩)
        have e16 : f 16 = _ := hR 16 (.inl ⟨by decide, by decide⟩)
        obtain ⟨hl1, hh1, hlo, hhi, e13, hb13⟩ := hbx (14, 13) (by decide)
        rw [hl1] at hw14
        clear e14 hl1 hh1 hhi hb13 hR hz14 hz10
        have HB13 := hq (below_trans HB12.o hb)
        have HZ13 := hq (HZ12.o.grow hb)
        have HU13 := hq (HU12.o.grow hb)
        have HI13 := hq (HI12.o.growR hb)
        have HJ13 := hq (HJ12.o.growR hb)
        have HW13 := hq hw14
        have HK13 := hq (show IsVR wv zv.v W2 from ⟨z2, hzv, hzo14, hzm14⟩)
        generalize f 13 = x13 at *
        generalize f 15 = x15 at *
        generalize f 16 = x16 at *
        subst e13 e15 e16
        generalize lo 13 = g19 at *
        clear HB12 HZ12 HU12 HI12 HJ12 HD12 HX12 HSL HRA HNC hb hw14 hzo14 hzm14 hzv
        obtain ⟨vk, vt, ⟨vko, vkc, vkl⟩, vo, vc, vis⟩ := zv
        unfold vcells at HW13
        simp only [Vt.k, Vt.t, Vt.ks, Vt.o, Vt.c, Vt.is] at HW13
        rw [Vt.v_mk'] at HK13
        have HEQ1 := hq (fun V (h : Below W2.heap.size W2 V) => equalVR_any (r := true) (HI13.o.growR h) (HJ13.o.growR h) ⟨fun _ => rfl, fun _ => rfl⟩)
        have HEQ2 := hq (fun V (h : Below W2.heap.size W2 V) => equalVR_any (r := true) (HI13.o.growR h) (HK13.o.growR h) ⟨fun _ => rfl, fun _ => rfl⟩)
        clear HI13 HJ13 HK13
        obtain ⟨a0, a1, a2, a3⟩ := four_cells HZ13.o
        obtain ⟨b0, b1, b2, b3⟩ := four_cells HU13.o
        go_wp2_with fail
        refine (HEQ1.o W2 (Below.refl _ _)).mono ?_
        rintro e w20 ⟨rfl, hb20⟩
        have HB20 := hq (below_trans HB13.o hb20)
        have HZ20 := hq (HZ13.o.grow hb20)
        have HW20 := hq (HW13.o.grow hb20)
        have HC20 := HEQ2.o w20 hb20
        clear hb20 HB13 HZ13 HU13 HW13 HEQ1 HEQ2 a0 a1 a2 a3 b0 b1 b2 b3
        obtain ⟨a0, a1, a2, a3⟩ := four_cells HZ20.o
        obtain ⟨b0, b1, b2, b3⟩ := four_cells HW20.o
        go_wp2_with fail
        refine HC20.mono ?_
        rintro e w21 ⟨rfl, hb21⟩
        have HV := hq (HFI.o w21 (below_trans HB20.o hb21))
        clear hb21 HB20 HFI HZ20 HW20 HC20 a0 a1 a2 a3 b0 b1 b2 b3
        go_wp2_with fail
        first | exact HV.o | (go_ret; exact HV.o)
end Go.Proofs.YtnlkokgekjlmmaaGreatDoor
