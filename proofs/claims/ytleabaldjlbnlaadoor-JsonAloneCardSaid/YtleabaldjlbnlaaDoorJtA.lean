/-
  WALK: the law JsonAlone.
-/
import Derived.Test.YtleabaldjlbnlaaDoorJtS
import Derived.Test.YtleabaldjlbnlaaDoorJwN
import Derived.Test.YtleabaldjlbnlaaDoorJsPb
import Derived.Deep.LoopGhost
namespace Go.Proofs.YtleabaldjlbnlaaDoor
open Go.RowKit

theorem i64_and4095 (n : Int) : bits .and .i64 n 4095 = n % 4096 := by
  have h63 : (BitVec.ofInt 64 4095).toNat = 2 ^ 12 - 1 := by decide
  have key : (BitVec.ofInt 64 n &&& BitVec.ofInt 64 4095).toNat = (n % ((2 ^ 64 : Nat) : Int)).toNat % 2 ^ 12 := by
    rw [BitVec.toNat_and, BitVec.toNat_ofInt, h63, Nat.and_two_pow_sub_one_eq_mod]
  show IntKind.i64.wrap ((BitVec.ofInt 64 n &&& BitVec.ofInt 64 4095).toNat : Nat) = n % 4096
  rw [key, IntKind.wrap_i64]
  omega
/-- the cells of a Doc's nodes, in any later memory -/
theorem doc_cells {W : World} {B : Nat} {nv : List NV} {o : Option Addr} {cap : Nat} (h : DocIn B nv (.slice o nv.length cap) W) (hp : 0 < nv.length) :
    ∃ g, o = some ⟨g, 0, none⟩ ∧ ∀ i (hi : i < nv.length) j (u : Value), j < 7 → (nodeC nv[i])[j]? = some u → ∀ wx, Below W.heap.size W wx → wx.cell? ⟨g, i * 7 + j, none⟩ = some u := by
  obtain ⟨g, c, hv, _, _, _, _, _, hc⟩ := h.node hp
  injection hv with ho
  refine ⟨g, ho, fun i hi j u hj hu wx hbx => ?_⟩
  have := (hc i hi j hj).trans hu
  exact (hbx.cell (cell_blk' this)).trans this
/-- a kid of a Doc's node, in any later memory -/
theorem kid_cells {W : World} {B : Nat} {nv : List NV} {vN : Value} (h : DocIn B nv vN W) {i : Nat} (hi : i < nv.length) {q : Nat} (hq : q < nv[i].n.kids.length) :
    ∃ g c, nv[i].k = .slice (some ⟨g, 0, none⟩) nv[i].n.kids.length c ∧ ∀ wx, Below W.heap.size W wx → wx.cell? ⟨g, q, none⟩ = some (.int .i64 (nv[i].n.kids[q] : Int)) := by
  obtain ⟨g, c, h1, h2⟩ := nids_cell (h.kr i hi) hq
  exact ⟨g, c, h1, fun wx hb => (hb.cell (cell_blk' h2)).trans h2⟩
theorem slice_at {s : ByteArray} {a b : Nat} (h1 : a ≤ b) (h2 : b ≤ s.size) : sliceM s (a : Int) (b : Int) = s.extract a b := by
  unfold sliceM textT
  rw [if_neg (by omega)]
  rfl
theorem nmapA {nv : List NV} {m : Nat} (h : m < nv.length) : (nv.map NV.n)[m]? = some nv[m].n := by simp [h]
theorem Tree.kid {s : ByteArray} {ns : List JN} (h : Tree s ns) {i : Nat} {x : JN} (hi : ns[i]? = some x) {q k : Nat} (hk : x.kids[q]? = some k) : k < ns.length := by
  have hno := h.ok i x hi
  have hql := (List.getElem?_eq_some_iff.1 hk).1
  have key : ∀ ob m, Kds s ns ob i (x.a + 1) x.kids x.pcs m → k < ns.length := fun ob m hK => by
    obtain ⟨j, p, KA⟩ := hK.ix q hql
    obtain ⟨_, y, hy, _⟩ := KA.in_
    have h1 := KA.kid
    rw [hk] at h1
    rw [Option.some.inj h1]
    exact (List.getElem?_eq_some_iff.1 hy).1
  by_cases h5 : x.kd = 5
  · obtain ⟨m, h1, _⟩ := hno.arr h5; exact key _ _ h1
  · by_cases h6 : x.kd = 6
    · obtain ⟨m, h1, _⟩ := hno.obj h6; exact key _ _ h1
    · rw [(hno.leaf h5 h6).1] at hql; exact absurd hql (by simp)
set_option maxHeartbeats 1000000 in
set_option maxRecDepth 1000000 in
theorem jalone_any (s : ByteArray) (x : Int) (W : World) (hT : tabs W) (hs : s.size ≤ maxLen) :
    Calls Tryd.prog 6 #[.string s, .int .i64 x] W fun e W' => e = .returned (.bool true) ∧ Below W.heap.size W W' := by
  have HS := hq (jsmall_any W hT)
  have HPA := hq (fun t WW (hb : Below W.heap.size W WW) (ht : t.size ≤ maxLen) => jparse_any t WW (tabs_grow hT hb) ht)
  have HSL := hq (fun (o : Option Addr) (n c a b : Nat) (WW : World) (hab : a ≤ b) (hbs : b ≤ s.size) => (by
    have h := jslice_any s (.slice o n c) ⟨o, n, c, rfl⟩ a b WW hs (by unfold maxLen at hs; omega) (by unfold maxLen at hs; omega)
    rw [slice_at hab hbs] at h
    exact h : Calls Tryd.prog 16 #[.agg #[.string s, .slice o n c], .agg #[.int .i64 (a : Int), .int .i64 (b : Int)]] WW fun e W' => e = .returned (.string (s.extract a b)) ∧ Below WW.heap.size WW W'))
  obtain ⟨k, hk, hk4⟩ : ∃ k : Nat, bits .and .i64 x 4095 = (k : Int) ∧ k ≤ 4095 := ⟨(x % 4096).toNat, by rw [i64_and4095]; omega, by omega⟩
  have HPS := hq (fun WW hb => HPA.o s WW hb hs)
  clear hT
  unfold maxLen at hs
  go_enter Tryd.func6, Tryd.ntmps6
  go_wp2_with fail
  refine HS.o.mono ?_
  rintro e W1 ⟨rfl, hb1⟩
  have HB1 := hq hb1
  clear hb1 HS
  have HP := hq (HPS.o W1 HB1.o)
  clear HPS
  by_cases hbig : 4096 < s.size
  · have hz1 : (4096 : Int) < (s.size : Int) := by omega
    clear HPA HSL
    go_wp2_with fail
    refine HP.o.mono ?_
    rintro e W2 h
    obtain ⟨sx, o, l, c, n, er, rfl, hb2⟩ := jparse_weak h
    have HB2 := hq (below_trans (below_trans HB1.o hb2) (below_alloc W2 (.cells #[.string sx, .slice o l c] 25)))
    clear hb2 HP h
    rcases Bool.eq_false_or_eq_true (er != 0) with her | her
    · go_wp2_with fail
      go_ret
      exact ⟨rfl, HB2.o⟩
    · go_wp2_with fail
      go_ret
      exact ⟨rfl, HB2.o⟩
  · have hz1 : ¬ (4096 : Int) < (s.size : Int) := by omega
    cases hpm : jparseM s with
    | inl e =>
      obtain ⟨wh, er⟩ := e
      have herb : (er != 0) = true := bne_iff_ne.2 (jparseM_er hpm)
      unfold JParsePost at HP
      rw [hpm] at HP
      simp only at HP
      clear hpm HPA HSL
      go_wp2_with fail
      refine HP.o.mono ?_
      rintro e W2 ⟨rfl, hb2⟩
      have HB2 := hq (below_trans (below_trans HB1.o hb2) (below_alloc W2 (.cells #[.string ⟨#[]⟩, .slice none 0 0] 25)))
      clear hb2 HP
      go_wp2_with fail
      go_ret
      exact ⟨rfl, HB2.o⟩
    | inr ns =>
      have HTR := hq (jparseM_whole hpm)
      have HAL := hq (fun i x (h : ns[i]? = some x) => alone_ok hpm (by omega) h)
      unfold JParsePost at HP
      rw [hpm] at HP
      simp only at HP
      clear hpm
      go_wp2_with fail
      refine HP.o.mono ?_
      rintro e W2 ⟨nv, vN, rfl, hd2, hn2, hb2⟩
      obtain ⟨na, nc, rfl⟩ := row_shape hd2.nd
      have hb3 := below_alloc W2 (.cells #[.string s, .slice na nv.length nc] 25)
      have HX1 := hq (DocBox.mk (B := W1.heap.size) (Whole.made W2 25 #[.string s, .slice na nv.length nc]) (hd2.grow hb3) (below_trans hb2 hb3))
      have HN1 := hq hn2
      have HB3 := hq (below_trans (below_trans HB1.o hb2) hb3)
      have hn4 := hd2.n4
      have hpos : 0 < nv.length := by have := HTR.o.pos; rwa [← HN1.o, List.length_map] at this
      obtain ⟨g1, rfl, HC1⟩ := doc_cells hd2 hpos
      have HCC1 := hq (fun i hi j u hj hu wx hbx => HC1 i hi j u hj hu wx (below_trans hb3 hbx))
      obtain ⟨i, hi, hiz⟩ : ∃ i, i < nv.length ∧ (k : Int).tmod (nv.length : Int) = (i : Int) := ⟨k % nv.length, Nat.mod_lt _ hpos, by rfl⟩
      have hxi : ns[i]? = some nv[i].n := by rw [← HN1.o]; exact nmapA hi
      have hilz : (i : Int) < (nv.length : Int) := by omega
      have hn0 : ((nv.length : Int) == 0) = false := by rw [beq_eq_false_iff_ne]; omega
      obtain ⟨hxab, hxbs, cs, hcs, hal⟩ := HAL.o i _ hxi
      have HAO := hq hal
      have HPT := hq (fun WW hb => HPA.o (s.extract nv[i].n.a nv[i].n.b) WW hb (by rw [ByteArray.size_extract]; unfold maxLen; omega))
      have hTz : (s.extract nv[i].n.a nv[i].n.b).size = nv[i].n.b - nv[i].n.a := by rw [ByteArray.size_extract]; omega
      unfold JParsePost at HPT
      rw [hcs] at HPT
      simp only at HPT
      have HSX := hq (fun o n c WW => HSL.o o n c _ _ WW hxab hxbs)
      clear hal hcs HSL HAL HPA HC1 hxi
      generalize hTT : s.extract nv[i].n.a nv[i].n.b = T at *
      have HTZ := hq hTz
      clear hTT hTz
      go_upto_region 3 with fail
      generalize W2.heap.size = bD at *
      generalize W2.alloc (.cells #[.string s, .slice (some ⟨g1, 0, none⟩) nv.length nc] 25) = W3 at *
      clear hb2 hb3 hd2 hn2 HP HB1
      have d0 := HX1.o.box.at_ 0
      have d1 := HX1.o.box.at_ 1
      have c0 := HCC1.o i hi 0 (.int .i64 (nv[i].n.kd : Int)) (by omega) rfl W3 (Below.refl _ _)
      have c1 := HCC1.o i hi 1 (.int .i64 (nv[i].n.a : Int)) (by omega) rfl W3 (Below.refl _ _)
      have c2 := HCC1.o i hi 2 (.int .i64 (nv[i].n.b : Int)) (by omega) rfl W3 (Below.refl _ _)
      have c3 := HCC1.o i hi 3 (.int .i64 (nv[i].n.ka : Int)) (by omega) rfl W3 (Below.refl _ _)
      have c4 := HCC1.o i hi 4 (.int .i64 (nv[i].n.kb : Int)) (by omega) rfl W3 (Below.refl _ _)
      have c5 := HCC1.o i hi 5 nv[i].k (by omega) rfl W3 (Below.refl _ _)
      have c6 := HCC1.o i hi 6 nv[i].p (by omega) rfl W3 (Below.refl _ _)
      rw [Nat.add_zero] at c0
      obtain ⟨ka, kc, hks⟩ := row_shape (HX1.o.doc.kr i hi)
      obtain ⟨pa, pc, hps⟩ := row_shape (HX1.o.doc.pr i hi)
      rw [hks] at c5
      rw [hps] at c6
      have HKS := hq hks
      have HXX := hq (Whole.made W3 41 #[.int .i64 (nv[i].n.kd : Int), .int .i64 (nv[i].n.a : Int), .int .i64 (nv[i].n.b : Int), .int .i64 (nv[i].n.ka : Int), .int .i64 (nv[i].n.kb : Int), .slice ka nv[i].n.kids.length kc, .slice pa nv[i].n.pcs.length pc])
      have HX14 := hq (HX1.o.grow (below_alloc W3 (.cells #[.int .i64 (nv[i].n.kd : Int), .int .i64 (nv[i].n.a : Int), .int .i64 (nv[i].n.b : Int), .int .i64 (nv[i].n.ka : Int), .int .i64 (nv[i].n.kb : Int), .slice ka nv[i].n.kids.length kc, .slice pa nv[i].n.pcs.length pc] 41)))
      have HB4 := hq (below_trans HB3.o (below_alloc W3 (.cells #[.int .i64 (nv[i].n.kd : Int), .int .i64 (nv[i].n.a : Int), .int .i64 (nv[i].n.b : Int), .int .i64 (nv[i].n.ka : Int), .int .i64 (nv[i].n.kb : Int), .slice ka nv[i].n.kids.length kc, .slice pa nv[i].n.pcs.length pc] 41)))
      have HBX := hq (fun wx (h : Below (W3.alloc (.cells #[.int .i64 (nv[i].n.kd : Int), .int .i64 (nv[i].n.a : Int), .int .i64 (nv[i].n.b : Int), .int .i64 (nv[i].n.ka : Int), .int .i64 (nv[i].n.kb : Int), .slice ka nv[i].n.kids.length kc, .slice pa nv[i].n.pcs.length pc] 41)).heap.size (W3.alloc (.cells #[.int .i64 (nv[i].n.kd : Int), .int .i64 (nv[i].n.a : Int), .int .i64 (nv[i].n.b : Int), .int .i64 (nv[i].n.ka : Int), .int .i64 (nv[i].n.kb : Int), .slice ka nv[i].n.kids.length kc, .slice pa nv[i].n.pcs.length pc] 41)) wx) => below_trans (below_alloc W3 (.cells #[.int .i64 (nv[i].n.kd : Int), .int .i64 (nv[i].n.a : Int), .int .i64 (nv[i].n.b : Int), .int .i64 (nv[i].n.ka : Int), .int .i64 (nv[i].n.kb : Int), .slice ka nv[i].n.kids.length kc, .slice pa nv[i].n.pcs.length pc] 41)) h)
      clear hks hps
      go_upto_region 7 with fail
      generalize W3.heap.size = bX at *
      generalize W3.alloc (.cells #[.int .i64 (nv[i].n.kd : Int), .int .i64 (nv[i].n.a : Int), .int .i64 (nv[i].n.b : Int), .int .i64 (nv[i].n.ka : Int), .int .i64 (nv[i].n.kb : Int), .slice ka nv[i].n.kids.length kc, .slice pa nv[i].n.pcs.length pc] 41) = W4 at *
      clear c0 c1 c2 c3 c4 c5 c6 d0 d1 hk hk4 hiz hn0 HKS
      have d0 := HX14.o.box.at_ 0
      have d1 := HX14.o.box.at_ 1
      have y1 := HXX.o.at_ 1
      have y2 := HXX.o.at_ 2
      go_wp2_with fail
      refine (HSX.o _ _ _ _).mono ?_
      rintro e W5 ⟨rfl, hb5⟩
      have HB5 := hq (below_trans HB4.o hb5)
      have HX15 := hq (HX14.o.grow hb5)
      have HXX5 := hq (HXX.o.grow hb5)
      have HBX5 := hq (fun wx h => HBX.o wx (below_trans hb5 h))
      clear d0 d1 y1 y2 hb5 HX14 HXX HBX HB4
      go_upto_region 8 with fail
      go_wp2_with fail
      refine (HPT.o _ HB5.o).mono ?_
      rintro e W6 ⟨cv, vC, rfl, hd6, hn6, hb6⟩
      obtain ⟨ma, mc, rfl⟩ := row_shape hd6.nd
      have hb7 := below_alloc W6 (.cells #[.string T, .slice ma cv.length mc] 25)
      have HNC := hq hn6
      have hcl : cs.length = cv.length := by rw [← hn6, List.length_map]
      have hnl : ns.length = nv.length := by rw [← HN1.o, List.length_map]
      have hcp : 0 < cv.length := by have := HAO.o.pos; omega
      have hle : i + cv.length ≤ nv.length := by have := HAO.o.le; omega
      obtain ⟨g2, rfl, HC2⟩ := doc_cells hd6 hcp
      have HCC2 := hq (fun i hi j u hj hu wx hbx => HC2 i hi j u hj hu wx (below_trans hb7 hbx))
      have HX2 := hq (DocBox.mk (B := W5.heap.size) (Whole.made W6 25 #[.string T, .slice (some ⟨g2, 0, none⟩) cv.length mc]) (hd6.grow hb7) (below_trans hb6 hb7))
      have HB7 := hq (below_trans HB5.o (below_trans hb6 hb7))
      have HX17 := hq (HX15.o.grow (below_trans hb6 hb7))
      have HXX7 := hq (HXX5.o.grow (below_trans hb6 hb7))
      have HBX7 := hq (fun wx h => HBX5.o wx (below_trans (below_trans hb6 hb7) h))
      have hcl2 := HNC.o
      go_upto_region 9 with fail
      clear hb6 hb7 hd6 hn6 HC2 HX15 HXX5 HBX5
      generalize W6.heap.size = bC at *
      generalize W6.alloc (.cells #[.string T, .slice (some ⟨g2, 0, none⟩) cv.length mc] 25) = W7 at *
      have d1 := HX17.o.box.at_ 1
      have e1 := HX2.o.box.at_ 1
      have y1 := HXX7.o.at_ 1
      have y2 := HXX7.o.at_ 2
      have f1 : ((T.size : Int) != (T.size : Int)) = false := bne_self_eq_false _
      have f2 : ((T.size : Int) != (nv[i].n.b : Int) - (nv[i].n.a : Int)) = false := by have := HTZ.o; rw [bne_eq_false_iff_eq]; omega
      have f3 : ¬ ((nv.length : Int) - (i : Int) < (cv.length : Int)) := by omega
      have ht4 : T.size ≤ 4096 := by have := HTZ.o; omega
      have hcz : (0 : Int) < (cv.length : Int) := by omega
      go_upto_region 11 with fail
      clear d1 e1 y1 y2 f1 f2 f3
      go_wp2_with fail
      go_loopg [15] cv.length (fun g u wr => ∃ j : Nat, j + g ≤ cv.length ∧ cv.length ≤ j + g ∧ u = .int .i64 (j : Int) ∧ Hq (Below W7.heap.size W7 wr))
      case atStart => exact ⟨0, by omega, by omega, rfl, hq (Below.refl _ _)⟩
      case round =>
        generalize gk = go at *
        obtain ⟨j, hj, hj', rfl, hb⟩ := hrel
        have HE1 := hq (HX17.o.grow hb.o)
        have HE2 := hq (HX2.o.grow hb.o)
        have d1 := HE1.o.box.at_ 1
        have e1 := HE2.o.box.at_ 1
        by_cases hjl : j < cv.length
        · have hjz : (j : Int) < (cv.length : Int) := by omega
          have hijn : i + j < nv.length := by omega
          have hijz : (i : Int) + (j : Int) < (nv.length : Int) := by omega
          have hcj : cs[j]? = some cv[j].n := by rw [← HNC.o]; exact nmapA hjl
          obtain ⟨w, hw, HRR⟩ := HAO.o.at_ j _ hcj
          replace HRR := hq HRR
          have r5 := HRR.o.2.2.2.2
          have hwv : nv[i + j].n = w := Option.some.inj ((nmapA hijn).symm.trans (by rw [HN1.o]; exact hw))
          have HKB : Hq (∀ q kq : Nat, w.kids[q]? = some kq → kq < nv.length) := hq (fun q kq h => by have := HTR.o.kid hw h; omega)
          have hka0 : j = 0 → cv[j].n.ka = 0 ∧ cv[j].n.kb = 0 := fun h0 => by
            obtain ⟨y, z1, z2, z3⟩ := HAO.o.top
            rw [← h0, hcj] at z1
            rw [Option.some.inj z1]; exact ⟨z2, z3⟩
          have hwab := (HTR.o.ok _ _ hw).ab
          have hwbs := (HTR.o.ok _ _ hw).bs
          have c0 := HCC2.o j hjl 0 (.int .i64 (cv[j].n.kd : Int)) (by omega) rfl wr hb.o
          have c1 := HCC2.o j hjl 1 (.int .i64 (cv[j].n.a : Int)) (by omega) rfl wr hb.o
          have c2 := HCC2.o j hjl 2 (.int .i64 (cv[j].n.b : Int)) (by omega) rfl wr hb.o
          have c3 := HCC2.o j hjl 3 (.int .i64 (cv[j].n.ka : Int)) (by omega) rfl wr hb.o
          have c4 := HCC2.o j hjl 4 (.int .i64 (cv[j].n.kb : Int)) (by omega) rfl wr hb.o
          have c5 := HCC2.o j hjl 5 cv[j].k (by omega) rfl wr hb.o
          have c6 := HCC2.o j hjl 6 cv[j].p (by omega) rfl wr hb.o
          rw [Nat.add_zero] at c0
          obtain ⟨ua, uc, hks⟩ := row_shape (HX2.o.doc.kr j hjl)
          obtain ⟨va, vc, hps⟩ := row_shape (HX2.o.doc.pr j hjl)
          rw [hks] at c5
          rw [hps] at c6
          have HKA := hq hks
          have HA := hq (Whole.made wr 41 #[.int .i64 (cv[j].n.kd : Int), .int .i64 (cv[j].n.a : Int), .int .i64 (cv[j].n.b : Int), .int .i64 (cv[j].n.ka : Int), .int .i64 (cv[j].n.kb : Int), .slice ua cv[j].n.kids.length uc, .slice va cv[j].n.pcs.length vc])
          have HBA := hq (below_alloc wr (.cells #[.int .i64 (cv[j].n.kd : Int), .int .i64 (cv[j].n.a : Int), .int .i64 (cv[j].n.b : Int), .int .i64 (cv[j].n.ka : Int), .int .i64 (cv[j].n.kb : Int), .slice ua cv[j].n.kids.length uc, .slice va cv[j].n.pcs.length vc] 41))
          have HB8 := hq (below_trans hb.o HBA.o)
          have HE3 := hq (HX17.o.grow HB8.o)
          clear hks hps
          go_upto_region 15 with fail
          generalize wr.heap.size = bA at *
          generalize wr.alloc (.cells #[.int .i64 (cv[j].n.kd : Int), .int .i64 (cv[j].n.a : Int), .int .i64 (cv[j].n.b : Int), .int .i64 (cv[j].n.ka : Int), .int .i64 (cv[j].n.kb : Int), .slice ua cv[j].n.kids.length uc, .slice va cv[j].n.pcs.length vc] 41) = W8 at *
          clear c0 c1 c2 c3 c4 c5 c6 d1 e1
          have d1 := HE3.o.box.at_ 1
          have c0 := HCC1.o (i + j) hijn 0 (.int .i64 (nv[i + j].n.kd : Int)) (by omega) rfl W8 (HBX7.o _ HB8.o)
          have c1 := HCC1.o (i + j) hijn 1 (.int .i64 (nv[i + j].n.a : Int)) (by omega) rfl W8 (HBX7.o _ HB8.o)
          have c2 := HCC1.o (i + j) hijn 2 (.int .i64 (nv[i + j].n.b : Int)) (by omega) rfl W8 (HBX7.o _ HB8.o)
          have c3 := HCC1.o (i + j) hijn 3 (.int .i64 (nv[i + j].n.ka : Int)) (by omega) rfl W8 (HBX7.o _ HB8.o)
          have c4 := HCC1.o (i + j) hijn 4 (.int .i64 (nv[i + j].n.kb : Int)) (by omega) rfl W8 (HBX7.o _ HB8.o)
          have c5 := HCC1.o (i + j) hijn 5 nv[i + j].k (by omega) rfl W8 (HBX7.o _ HB8.o)
          have c6 := HCC1.o (i + j) hijn 6 nv[i + j].p (by omega) rfl W8 (HBX7.o _ HB8.o)
          rw [Nat.add_zero] at c0
          obtain ⟨sa, sc, hks⟩ := row_shape (HX17.o.doc.kr (i + j) hijn)
          obtain ⟨ta, tc, hps⟩ := row_shape (HX17.o.doc.pr (i + j) hijn)
          rw [hks] at c5
          rw [hps] at c6
          have HKC := hq hks
          have HKID : Hq (∀ p, p < cv[j].n.kids.length → ∃ kq gA gB : Nat, kq + i < nv.length ∧ ua = some ⟨gA, 0, none⟩ ∧ sa = some ⟨gB, 0, none⟩ ∧ ∀ wx, Below W7.heap.size W7 wx → wx.cell? ⟨gA, p, none⟩ = some (.int .i64 (kq : Int)) ∧ wx.cell? ⟨gB, p, none⟩ = some (.int .i64 ((kq + i : Nat) : Int))) := hq (fun p hpl => by
            obtain ⟨gA, cA, e3, HQA⟩ := kid_cells HX2.o.doc hjl hpl
            have e3' := HKA.o.symm.trans e3
            have hwp := r5 p _ (List.getElem?_eq_getElem hpl)
            have hbd := HKB.o _ _ hwp
            have hpl2 : p < nv[i + j].n.kids.length := by rw [hwv, ← HRR.o.2.2.2.1]; exact hpl
            obtain ⟨gB, cB, e4, HQB⟩ := kid_cells HX17.o.doc hijn hpl2
            have e4' := HKC.o.symm.trans e4
            have hw2 : nv[i + j].n.kids[p] = cv[j].n.kids[p] + i := by
              have h1 : nv[i + j].n.kids[p]? = some (cv[j].n.kids[p] + i) := by rw [hwv]; exact hwp
              exact (List.getElem?_eq_some_iff.1 h1).2
            injection e3' with e5 _ _
            injection e4' with e6 _ _
            refine ⟨cv[j].n.kids[p], gA, gB, hbd, e5, e6, fun wx hbx => ⟨HQA wx hbx, ?_⟩⟩
            have := HQB wx hbx
            rwa [hw2] at this)
          rw [hwv] at c0 c1 c2 c3 c4 c5 c6
          have HC := hq (Whole.made W8 41 #[.int .i64 (w.kd : Int), .int .i64 (w.a : Int), .int .i64 (w.b : Int), .int .i64 (w.ka : Int), .int .i64 (w.kb : Int), .slice sa w.kids.length sc, .slice ta w.pcs.length tc])
          have HB9 := hq (below_trans HB8.o (below_alloc W8 (.cells #[.int .i64 (w.kd : Int), .int .i64 (w.a : Int), .int .i64 (w.b : Int), .int .i64 (w.ka : Int), .int .i64 (w.kb : Int), .slice sa w.kids.length sc, .slice ta w.pcs.length tc] 41)))
          have HA9 := hq (HA.o.grow (below_alloc W8 (.cells #[.int .i64 (w.kd : Int), .int .i64 (w.a : Int), .int .i64 (w.b : Int), .int .i64 (w.ka : Int), .int .i64 (w.kb : Int), .slice sa w.kids.length sc, .slice ta w.pcs.length tc] 41)))
          have HXX9 := hq (HXX7.o.grow HB9.o)
          clear hks hps
          have HKL : Hq (cv[j].n.kids.length ≤ 4096) := hq (by have := (HX2.o.doc.kl j hjl).1; have := HX2.o.doc.n4; omega)
          clear HKA HKC HKB r5 hw hcj hwv hcl2
          generalize cv[j].n.kd = A0 at *
          generalize cv[j].n.a = A1 at *
          generalize cv[j].n.b = A2 at *
          generalize cv[j].n.ka = A3 at *
          generalize cv[j].n.kb = A4 at *
          generalize cv[j].n.kids.length = KL at *
          generalize cv[j].n.pcs.length = PL at *
          generalize nv[i].n.a = X1 at *
          generalize nv[i].n.b = X2 at *
          obtain ⟨B0, B1, B2, B3, B4, B5, B6⟩ := w
          simp only at HC HB9 HA9 HXX9 HRR hwab hwbs c0 c1 c2 c3 c4 c5 c6
          go_upto_region 16 with fail
          generalize W8.heap.size = bB at *
          generalize W8.alloc (.cells #[.int .i64 (B0 : Int), .int .i64 (B1 : Int), .int .i64 (B2 : Int), .int .i64 (B3 : Int), .int .i64 (B4 : Int), .slice sa B5.length sc, .slice ta B6.length tc] 41) = W9 at *
          clear c0 c1 c2 c3 c4 c5 c6 d1
          obtain ⟨r1, r2, r3, r4, _⟩ := HRR.o
          clear HRR
          generalize B5.length = BL at *
          generalize B6.length = BP at *
          clear HA HBA HB8 HE1 HE2 HE3 hb
          have a0 := HA9.o.at_ 0
          have a1 := HA9.o.at_ 1
          have a2 := HA9.o.at_ 2
          have a3 := HA9.o.at_ 3
          have a4 := HA9.o.at_ 4
          have a5 := HA9.o.at_ 5
          have b0 := HC.o.at_ 0
          have b1 := HC.o.at_ 1
          have b2 := HC.o.at_ 2
          have b5 := HC.o.at_ 5
          have y1 := HXX9.o.at_ 1
          have f1 : ((A0 : Int) != (B0 : Int)) = false := by rw [bne_eq_false_iff_eq]; omega
          have f2 : ((A1 : Int) + (X1 : Int) != (B1 : Int)) = false := by rw [bne_eq_false_iff_eq]; omega
          have f3 : ((A2 : Int) + (X1 : Int) != (B2 : Int)) = false := by rw [bne_eq_false_iff_eq]; omega
          have f4 : ((KL : Int) != (BL : Int)) = false := by rw [bne_eq_false_iff_eq]; omega
          have hA1 : A1 + X1 ≤ 4096 := by omega
          have hA2 : A2 + X1 ≤ 4096 := by omega
          have HR4 := hq r4
          clear r1 r2 r3 r4
          go_cut [160] from 92 to 180 (fun c wx => c = .bool false ∧ W9 = wx)
          case first =>
            have HKA0 := hq hka0
            clear hka0
            by_cases hj0 : j = 0
            · obtain ⟨z1, z2⟩ := HKA0.o hj0
              rw [z1] at a3
              rw [z2] at a4
              have g0 : ((j : Int) == 0) = true := by rw [beq_iff_eq]; omega
              clear hj0 z1 z2
              go_wp2_with fail
              go_meet
              exact ⟨rfl, rfl⟩
            · have g0 : ((j : Int) == 0) = false := by rw [beq_eq_false_iff_ne]; omega
              clear hj0
              go_wp2_with fail
              go_meet
              exact ⟨rfl, rfl⟩
          case rest =>
            obtain ⟨rfl, rfl⟩ := hcut
            have hKL4 := HKL.o
            clear a0 a1 a2 a3 a4 b0 b1 b2 y1 f1 f2 f3 f4 hka0 hwab hwbs hA1 hA2
            go_wp2_with fail
            go_loopg [18] KL (fun g u wx => ∃ p : Nat, p + g ≤ KL ∧ KL ≤ p + g ∧ u = .int .i64 (p : Int) ∧ Hq (Below W9.heap.size W9 wx))
            case atStart => exact ⟨0, by omega, by omega, rfl, hq (Below.refl _ _)⟩
            case round =>
              clear a5 b5
              obtain ⟨p, hp, hp', rfl, hbi⟩ := hrel
              have HAI := hq (HA9.o.grow hbi.o)
              have HCI := hq (HC.o.grow hbi.o)
              have a5 := HAI.o.at_ 5
              have b5 := HCI.o.at_ 5
              have HBI := hq (below_trans HB9.o hbi.o)
              by_cases hpl : p < KL
              · have hpz : (p : Int) < (KL : Int) := by omega
                have hpz2 : (p : Int) < (BL : Int) := by have := HR4.o; omega
                obtain ⟨kq, gA, gB, hkn, rfl, rfl, HQQ⟩ := HKID.o p hpl
                obtain ⟨q1, q2⟩ := HQQ _ HBI.o
                have f1 : ((kq : Int) + (i : Int) != ((kq + i : Nat) : Int)) = false := by rw [bne_eq_false_iff_eq]; omega
                generalize ((kq + i : Nat) : Int) = KQ at *
                have HBN := hq (fun n => below_drewN hbi.o n)
                clear HQQ
                go_wp2_with fail
                go_big_quiet (fail)
                go_wp2_with fail
                go_roundg (gk - 1)
                case measure => omega
                case rel => exact ⟨p + 1, by omega, by omega, int_eq (by omega), hq (HBN.o _)⟩
              · have hpz : ¬ (p : Int) < (KL : Int) := by omega
                clear hpl
                go_wp2_with fail
                go_roundg (go - 1)
                case measure => omega
                case rel => exact ⟨j + 1, by omega, by omega, int_eq (by omega), HBI⟩
        · have hjz : ¬ (j : Int) < (cv.length : Int) := by omega
          have HXXE := hq (HXX7.o.grow hb.o)
          have y2 := HXXE.o.at_ 2
          have HBE := hq (fun n => below_drewN (below_trans HB7.o hb.o) n)
          by_cases heq : i + cv.length = nv.length
          · have g1 : ((i : Int) + (cv.length : Int) == (nv.length : Int)) = true := by rw [beq_iff_eq]; omega
            go_upto_region 23 with fail
            go_big_quiet (fail)
            go_wp2_with fail
            go_ret
            exact ⟨rfl, HBE.o _⟩
          · have g1 : ((i : Int) + (cv.length : Int) == (nv.length : Int)) = false := by rw [beq_eq_false_iff_ne]; omega
            have hlt : i + cv.length < nv.length := by omega
            have hltz : (i : Int) + (cv.length : Int) < (nv.length : Int) := by omega
            have c1 := HCC1.o (i + cv.length) hlt 1 (.int .i64 (nv[i + cv.length].n.a : Int)) (by omega) rfl wr (HBX7.o _ hb.o)
            have hnx : nv[i].n.b ≤ nv[i + cv.length].n.a := HAO.o.next _ (by rw [hcl, ← HN1.o]; exact nmapA hlt)
            generalize nv[i + cv.length].n.a = QA at *
            have g2 : decide ((nv[i].n.b : Int) ≤ (QA : Int)) = true := decide_eq_true (by omega)
            go_upto_region 23 with fail
            go_big_quiet (fail)
            go_wp2_with fail
            go_ret
            exact ⟨rfl, HBE.o _⟩
end Go.Proofs.YtleabaldjlbnlaaDoor
