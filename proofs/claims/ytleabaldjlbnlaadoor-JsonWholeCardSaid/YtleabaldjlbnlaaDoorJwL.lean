/-
  WALK: the law JsonWhole.
-/
import Derived.Test.YtleabaldjlbnlaaDoorJwN
import Derived.Deep.LoopGhost
import Derived.Deep.CutRange
import Derived.Deep.QuietTactic
import Derived.BigQuiet
import Derived.IntWalk
namespace Go.Proofs.YtleabaldjlbnlaaDoor
open Go.RowKit

theorem nmap_at {nv : List NV} {m : Nat} (h : m < nv.length) : (nv.map NV.n)[m]? = some nv[m].n := by simp [h]
set_option maxHeartbeats 8000000 in
set_option maxRecDepth 1000000 in
theorem jwhole_any (s : ByteArray) (W : World) (hT : tabs W) (hs : s.size ≤ maxLen) :
    Calls Tryd.prog 5 #[.string s] W fun e W' => e = .returned (.bool true) ∧ Below W.heap.size W W' := by
  have HS := hq (jsmall_any W hT)
  have HPA := hq (fun WW (hb : Below W.heap.size W WW) => jparse_any s WW (tabs_grow hT hb) hs)
  unfold JParsePost at HPA
  clear hT
  unfold maxLen at hs
  go_enter Tryd.func5, Tryd.ntmps5
  go_wp2_with fail
  refine HS.o.mono ?_
  rintro e W1 ⟨rfl, hb1⟩
  have HB1 := hq hb1
  clear hb1 HS
  have HP := hq (HPA.o W1 HB1.o)
  cases hpm : jparseM s with
  | inl e =>
    obtain ⟨wh, er⟩ := e
    rw [hpm] at HP
    simp only at HP
    have her := jparseM_er hpm
    have herb : (er != 0) = true := bne_iff_ne.2 her
    clear hpm HPA her
    go_wp2_with fail
    refine HP.o.mono ?_
    rintro e W2 ⟨rfl, hb2⟩
    have HB2 := hq (below_trans (below_trans HB1.o hb2) (below_alloc W2 (.cells #[.string ⟨#[]⟩, .slice none 0 0] 25)))
    clear hb2 HP
    go_wp2_with fail
    go_ret
    exact ⟨rfl, HB2.o⟩
  | inr ns =>
    rw [hpm] at HP
    simp only at HP
    have HTR := hq (jparseM_whole hpm)
    clear hpm HPA
    go_wp2_with fail
    refine HP.o.mono ?_
    rintro e W2 ⟨nv, vN, rfl, hd, hn, hb2⟩
    subst hn
    obtain ⟨na, nc, hnv⟩ := row_shape hd.nd
    subst hnv
    have hb3 := below_alloc W2 (.cells #[.string s, .slice na nv.length nc] 25)
    have HD3 := hq (hd.grow hb3)
    have HW3 := hq (Whole.made W2 25 #[.string s, .slice na nv.length nc])
    have HB3 := hq (below_trans (below_trans HB1.o hb2) hb3)
    have hpos : 0 < nv.length := by have := HTR.o.pos; rwa [List.length_map] at this
    have hn4 := hd.n4
    have hlz : ((nv.length : Int) == 0) = false := by rw [beq_eq_false_iff_ne]; omega
    go_upto_region 5 with fail
    generalize W2.heap.size = bD at *
    generalize W2.alloc (.cells #[.string s, .slice na nv.length nc] 25) = W3 at *
    clear hb2 hb3 hd HP HB1
    have d0 := HW3.o.at_ 0
    have d1 := HW3.o.at_ 1
    have hsk : ∀ k, sumTo (nv.map NV.n) k ≤ 4096 := fun k => by
      have h1 := sumTo_le (nv.map NV.n) k
      have h2 := HTR.o.sum
      rw [List.length_map] at h2
      omega
    have HSK := hq hsk
    clear hsk
    go_wp2_with fail
    go_loopg [7, 8] nv.length (fun g u i wr => ∃ k S : Nat, k + g ≤ nv.length ∧ nv.length ≤ k + g ∧ i = .int .i64 (k : Int) ∧ u = .int .i64 (S : Int) ∧ Hq (S = 1 + sumTo (nv.map NV.n) k) ∧ Hq (Below W3.heap.size W3 wr))
    case atStart => exact ⟨0, 1, by omega, by omega, rfl, rfl, hq rfl, hq (Below.refl _ _)⟩
    case round =>
      clear d0 d1
      generalize gk = go at *
      obtain ⟨k, S, hk, hk', rfl, rfl, HS, hb⟩ := hrel
      have hS4 : S ≤ 4097 := by have := HS.o; have := HSK.o k; omega
      have d0 := HW3.o.grow hb.o |>.at_ 0
      have d1 := HW3.o.grow hb.o |>.at_ 1
      by_cases hkl : k < nv.length
      · have hkz : (k : Int) < (nv.length : Int) := by omega
        obtain ⟨gN, cN, hv, hcn, hcm, _, _, _, hcell⟩ := HD3.o.node hkl
        cases hv
        have HDW := hq (HD3.o.grow hb.o)
        have hxk : (nv.map NV.n)[k]? = some nv[k].n := nmap_at hkl
        have HNO := hq (HTR.o.ok k _ hxk)
        have HSS := hq (sumTo_succ hxk)
        have HCW : Hq (∀ i (hi : i < nv.length) j (u : Value), j < 7 → (nodeC nv[i])[j]? = some u → ∀ wx, Below W3.heap.size W3 wx → wx.cell? ⟨gN, i * 7 + j, none⟩ = some u) := hq (fun i hi j u hj hu wx hbx => by
          have := (hcell i hi j hj).trans hu
          exact (hbx.cell (cell_blk' this)).trans this)
        have c0 := HCW.o k hkl 0 (.int .i64 (nv[k].n.kd : Int)) (by omega) rfl wr hb.o
        have c1 := HCW.o k hkl 1 (.int .i64 (nv[k].n.a : Int)) (by omega) rfl wr hb.o
        have c2 := HCW.o k hkl 2 (.int .i64 (nv[k].n.b : Int)) (by omega) rfl wr hb.o
        have c3 := HCW.o k hkl 3 (.int .i64 (nv[k].n.ka : Int)) (by omega) rfl wr hb.o
        have c4 := HCW.o k hkl 4 (.int .i64 (nv[k].n.kb : Int)) (by omega) rfl wr hb.o
        have c5 := HCW.o k hkl 5 nv[k].k (by omega) rfl wr hb.o
        have c6 := HCW.o k hkl 6 nv[k].p (by omega) rfl wr hb.o
        have HKR := hq (HD3.o.kr k hkl)
        have HPR := hq (HD3.o.pr k hkl)
        obtain ⟨ka, kc, hks⟩ := row_shape HKR.o
        obtain ⟨pa, pc, hps⟩ := row_shape HPR.o
        rw [hks] at c5
        rw [hps] at c6
        rw [Nat.add_zero] at c0
        have HKS := hq hks
        have HPS := hq hps
        have HASC : Hq (∀ m, k = m + 1 → ∃ hm : m < nv.length, nv[m].n.a < nv[k].n.a) := hq (fun m hm => ⟨by omega, HTR.o.asc m _ _ (nmap_at (by omega)) (by rw [← hm]; exact hxk)⟩)
        have hpl : nv[k].n.pcs.length = nv[k].n.kids.length := by
          by_cases h5 : nv[k].n.kd = 5
          · obtain ⟨m, h1, _⟩ := HNO.o.arr h5; exact h1.len
          · by_cases h6 : nv[k].n.kd = 6
            · obtain ⟨m, h1, _⟩ := HNO.o.obj h6; exact h1.len
            · rw [(HNO.o.leaf h5 h6).1, (HNO.o.leaf h5 h6).2]; rfl
        rw [hpl] at c6
        have HPL := hq hpl
        have hab := HNO.o.ab
        have hbs := HNO.o.bs
        clear hks hps hpl hcell hxk
        have HX := hq (Whole.made wr 41 #[.int .i64 (nv[k].n.kd : Int), .int .i64 (nv[k].n.a : Int), .int .i64 (nv[k].n.b : Int), .int .i64 (nv[k].n.ka : Int), .int .i64 (nv[k].n.kb : Int), .slice ka nv[k].n.kids.length kc, .slice pa nv[k].n.kids.length pc])
        have HB4 := hq (hb.o.alloc hb.o.size (.cells #[.int .i64 (nv[k].n.kd : Int), .int .i64 (nv[k].n.a : Int), .int .i64 (nv[k].n.b : Int), .int .i64 (nv[k].n.ka : Int), .int .i64 (nv[k].n.kb : Int), .slice ka nv[k].n.kids.length kc, .slice pa nv[k].n.kids.length pc] 41))
        go_upto_region 12 with fail
        generalize wr.heap.size = bX at *
        generalize wr.alloc (.cells #[.int .i64 (nv[k].n.kd : Int), .int .i64 (nv[k].n.a : Int), .int .i64 (nv[k].n.b : Int), .int .i64 (nv[k].n.ka : Int), .int .i64 (nv[k].n.kb : Int), .slice ka nv[k].n.kids.length kc, .slice pa nv[k].n.kids.length pc] 41) = W4 at *
        clear c0 c1 c2 c3 c4 c5 c6 d0 d1 hb HDW
        generalize hX : nv[k].n = X at *
        have HXX := hq hX
        clear hX
        have y0 := HX.o.at_ 0
        have y1 := HX.o.at_ 1
        have y2 := HX.o.at_ 2
        have y5 := HX.o.at_ 5
        have y6 := HX.o.at_ 6
        have HW4 := hq (HW3.o.grow HB4.o)
        have d1 := HW4.o.at_ 1
        go_cut [100] from 41 to 244 (fun c wx => c = .bool false ∧ Hq (Below W4.heap.size W4 wx))
        case first =>
          as_aux_lemma =>
            have e1 : decide ((X.a : Int) < 0) = false := decide_eq_false (by omega)
            have e2 : decide ((X.b : Int) ≤ (X.a : Int)) = false := decide_eq_false (by omega)
            have e3 : decide ((s.size : Int) < (X.b : Int)) = false := decide_eq_false (by omega)
            have f2 : decide (X.b ≤ X.a) = false := decide_eq_false (by omega)
            have f3 : decide (s.size < X.b) = false := decide_eq_false (by omega)
            have e7 : ((X.kids.length : Int) != (X.kids.length : Int)) = false := bne_self_eq_false _
            by_cases hk0 : k = 0
            · have e4 : decide ((0 : Int) < (k : Int)) = false := decide_eq_false (by omega)
              have f4 : decide (0 < k) = false := decide_eq_false (by omega)
              go_wp2_with fail
              go_big_quiet (fail)
              go_wp2_with fail
              go_meet
              exact ⟨rfl, hq (below_drewN (Below.refl _ _) _)⟩
            · have e4 : decide ((0 : Int) < (k : Int)) = true := decide_eq_true (by omega)
              have f4 : decide (0 < k) = true := decide_eq_true (by omega)
              obtain ⟨m, hm⟩ : ∃ m, k = m + 1 := ⟨k - 1, by omega⟩
              obtain ⟨hml, has⟩ := HASC.o m hm
              have e5 : IntKind.i64.wrap ((k : Int) - 1) = (m : Int) := by rw [IntWalk.i64_in _ (by omega)]; omega
              have e6 : decide ((X.a : Int) ≤ (nv[m].n.a : Int)) = false := decide_eq_false (by omega)
              have f6 : decide (X.a ≤ nv[m].n.a) = false := decide_eq_false (by omega)
              have q1 := HCW.o m hml 1 (.int .i64 (nv[m].n.a : Int)) (by omega) rfl W4 HB4.o
              have hmz : (m : Int) < (nv.length : Int) := by omega
              clear hm hk0 HASC HCW HNO HSS HXX
              generalize nv[m].n.a = xm at *
              go_wp2_with fail
              go_big_quiet (fail)
              go_wp2_with fail
              go_meet
              exact ⟨rfl, hq (below_drewN (Below.refl _ _) _)⟩
        case rest =>
          as_aux_lemma =>
            obtain ⟨rfl, hb5⟩ := hcut
            clear HASC
            have HB5 := hq (below_trans HB4.o hb5.o)
            have HX5 := hq (HX.o.grow hb5.o)
            have HW5 := hq (HW3.o.grow HB5.o)
            clear hb5 HB4 HX HW4 y0 y1 y2 y5 y6 d1
            have y0 := HX5.o.at_ 0
            have y1 := HX5.o.at_ 1
            have y2 := HX5.o.at_ 2
            have y5 := HX5.o.at_ 5
            have y6 := HX5.o.at_ 6
            by_cases hobj : X.kd = 5 ∨ X.kd = 6
            · go_upto_region 14 with fail
              go_cut [108] from 41 to 244 (fun c wx => c = .bool false ∧ wx = wc)
              case first =>
                as_aux_lemma =>
                  have HOBJ := hq hobj
                  clear hobj
                  rcases HOBJ.o with h5 | h5
                  · rw [h5] at y0
                    clear h5
                    go_wp2_with fail
                    go_meet
                    exact ⟨rfl, rfl⟩
                  · rw [h5] at y0
                    clear h5
                    go_wp2_with fail
                    go_meet
                    exact ⟨rfl, rfl⟩
              case rest =>
                as_aux_lemma =>
                  obtain ⟨rfl, rfl⟩ := hcut
                  have HOBJ := hq hobj
                  clear hobj
                  obtain ⟨ob, mE, hkd, hK, hmE⟩ : ∃ ob mE, X.kd = (if ob = true then 6 else 5) ∧ Kds s (nv.map NV.n) ob k (X.a + 1) X.kids X.pcs mE ∧ (X.kids ≠ [] → mE = X.b) := by
                    rcases HOBJ.o with h | h
                    · obtain ⟨m, h1, h2⟩ := HNO.o.arr h; exact ⟨false, m, h, h1, h2⟩
                    · obtain ⟨m, h1, h2⟩ := HNO.o.obj h; exact ⟨true, m, h, h1, h2⟩
                  have HKD := hq hkd
                  have HK := hq hK
                  have HME := hq hmE
                  have hml := hK.le
                  clear hkd hK hmE HOBJ HNO
                  have hkids4 : X.kids.length ≤ 4096 := by have := HSS.o; have := HSK.o (k + 1); omega
                  go_upto_region 17 with fail
                  go_cut [10] from 41 to 244 (fun a wx => a = .int .i64 ((X.a : Int) + 1) ∧ wc = wx)
                  case first =>
                    as_aux_lemma =>
                      go_wp2_with fail
                      go_meet
                      exact ⟨rfl, rfl⟩
                  obtain ⟨rfl, rfl⟩ := hcut
                  apply_assumption
                  apply wp_seq_k
                  intro KX hKX
                  go_cut [7, 10, 11] from 41 to 244 (fun u a q wx => ∃ T A j : Nat, u = .int .i64 (T : Int) ∧ a = .int .i64 (A : Int) ∧ q = .int .i64 (j : Int) ∧ Hq (T = 1 + sumTo (nv.map NV.n) (k + 1)) ∧ Hq (X.kids ≠ [] → A = X.b) ∧ Hq (Below wc.heap.size wc wx))
                  case first =>
                    as_aux_lemma =>
                      go_wp2_with fail
                      go_loopg [7, 10, 11] X.kids.length (fun g u a q wx => ∃ j T A : Nat, j + g ≤ X.kids.length ∧ X.kids.length ≤ j + g ∧ q = .int .i64 (j : Int) ∧ u = .int .i64 (T : Int) ∧ a = .int .i64 (A : Int) ∧ Hq (T = S + j ∧ A = atK (X.a + 1) X.pcs j) ∧ Hq (Below wc.heap.size wc wx))
                      case atStart => exact ⟨0, S, X.a + 1, by omega, by omega, rfl, rfl, int_eq (by omega), hq ⟨rfl, rfl⟩, hq (Below.refl _ _)⟩
                      case round =>
                        clear y0 y1 y2 y5 y6
                        obtain ⟨j, T, A, hj, hj', rfl, rfl, rfl, HTA, hbi⟩ := hrel
                        have hT4 : T ≤ 8193 := by have := HTA.o.1; omega
                        by_cases hjl : j < X.kids.length
                        · have hjz : (j : Int) < (X.kids.length : Int) := by omega
                          obtain ⟨jj, p, KA⟩ := HK.o.ix j hjl
                          obtain ⟨hkj, y, hy, hy1, hy2, hy3⟩ := KA.in_
                          have hjn : jj < nv.length := by have := (List.getElem?_eq_some_iff.1 hy).1; rwa [List.length_map] at this
                          have hyv : nv[jj].n = y := Option.some.inj ((nmap_at hjn).symm.trans hy)
                          have HKA := hq KA
                          obtain ⟨pf, pt⟩ := p
                          obtain rfl : A = pf := HTA.o.2.trans KA.at_.symm
                          have hle := KA.le
                          have hkne : X.kids ≠ [] := fun e => by rw [e] at hjl; exact absurd hjl (by simp)
                          have hptb : pt < X.b := by have := HME.o hkne; omega
                          have hAp : pt + 1 ≤ 65537 + s.size := by omega
                          obtain ⟨g1, c1, e1, q1⟩ := nids_cell HKR.o hjl
                          have e1' := HKS.o.symm.trans e1
                          cases e1'
                          obtain ⟨g2, c2, e2, q2, q3⟩ := spans_cell (k := j) HPR.o (by rw [HPL.o]; exact hjl)
                          have e2' := HPS.o.symm.trans e2
                          cases e2'
                          have hk1 : X.kids[j] = jj := by have := (List.getElem?_eq_some_iff.1 KA.kid).2; exact this
                          have hp1 : X.pcs[j]'(by rw [HPL.o]; exact hjl) = (A, pt) := by have := (List.getElem?_eq_some_iff.1 KA.pc).2; exact this
                          rw [hk1] at q1
                          rw [hp1] at q2 q3
                          have HQ1 : Hq (∀ wx, Below W3.heap.size W3 wx → wx.cell? ⟨g1, j, none⟩ = some (.int .i64 (jj : Int))) := hq (fun wx hb => (hb.cell (cell_blk' q1)).trans q1)
                          have HQ2 : Hq (∀ wx, Below W3.heap.size W3 wx → wx.cell? ⟨g2, j * 2, none⟩ = some (.int .i64 (A : Int)) ∧ wx.cell? ⟨g2, j * 2 + 1, none⟩ = some (.int .i64 (pt : Int))) := hq (fun wx hb => ⟨(hb.cell (cell_blk' q2)).trans q2, (hb.cell (cell_blk' q3)).trans q3⟩)
                          have HYV := hq hyv
                          clear e1 e2 q1 q2 q3 hk1 hp1 KA hy hyv
                          have HBW := hq (below_trans HB5.o hbi.o)
                          have HXW := hq (HX5.o.grow hbi.o)
                          have HDW := hq (HW3.o.grow HBW.o)
                          have d1 := HDW.o.at_ 1
                          have y5 := HXW.o.at_ 3
                          have x5 := HXW.o.at_ 5
                          have q1 := HQ1.o _ HBW.o
                          have b1 : decide ((jj : Int) ≤ (k : Int)) = false := decide_eq_false (by omega)
                          have b1' : decide (jj ≤ k) = false := decide_eq_false (by omega)
                          have b2 : decide ((nv.length : Int) ≤ (jj : Int)) = false := decide_eq_false (by omega)
                          have b2' : decide (nv.length ≤ jj) = false := decide_eq_false (by omega)
                          have hjnz : (jj : Int) < (nv.length : Int) := by omega
                          go_wp2_with fail
                          go_big_quiet (fail)
                          have HBJ := hq (below_drewN hbi.o nq)
                          clear hbi HBW HXW HDW d1 y5 x5 q1 b1 b1' b2 b2'
                          generalize wr.drewN nq = w6 at *
                          have HB6 := hq (below_trans HB5.o HBJ.o)
                          have HX6 := hq (HX5.o.grow HBJ.o)
                          have HD6 := hq (HW3.o.grow HB6.o)
                          obtain ⟨za, zc, hzk⟩ := row_shape (HD3.o.kr jj hjn)
                          obtain ⟨zpa, zpc, hzp⟩ := row_shape (HD3.o.pr jj hjn)
                          have z0 := HCW.o jj hjn 0 (.int .i64 (nv[jj].n.kd : Int)) (by omega) rfl w6 HB6.o
                          have z1 := HCW.o jj hjn 1 (.int .i64 (nv[jj].n.a : Int)) (by omega) rfl w6 HB6.o
                          have z2 := HCW.o jj hjn 2 (.int .i64 (nv[jj].n.b : Int)) (by omega) rfl w6 HB6.o
                          have z3 := HCW.o jj hjn 3 (.int .i64 (nv[jj].n.ka : Int)) (by omega) rfl w6 HB6.o
                          have z4 := HCW.o jj hjn 4 (.int .i64 (nv[jj].n.kb : Int)) (by omega) rfl w6 HB6.o
                          have z5 := HCW.o jj hjn 5 nv[jj].k (by omega) rfl w6 HB6.o
                          have z6 := HCW.o jj hjn 6 nv[jj].p (by omega) rfl w6 HB6.o
                          rw [hzk] at z5
                          rw [hzp] at z6
                          rw [HYV.o] at z0 z1 z2 z3 z4 z5 z6
                          rw [Nat.add_zero] at z0
                          clear hzk hzp
                          have d1 := HD6.o.at_ 1
                          have x5 := HX6.o.at_ 5
                          have q1 := HQ1.o _ HB6.o
                          have HBZ := hq (below_alloc w6 (.cells #[.int .i64 0, .int .i64 0, .int .i64 0, .int .i64 0, .int .i64 0, .slice none 0 0, .slice none 0 0] 41))
                          have d1z := (HD6.o.grow HBZ.o).at_ 1
                          have x5z := (HX6.o.grow HBZ.o).at_ 5
                          have q1z := HQ1.o _ (below_trans HB6.o HBZ.o)
                          have z0z := (HBZ.o.cell (cell_blk' z0)).trans z0
                          have z1z := (HBZ.o.cell (cell_blk' z1)).trans z1
                          have z2z := (HBZ.o.cell (cell_blk' z2)).trans z2
                          have z3z := (HBZ.o.cell (cell_blk' z3)).trans z3
                          have z4z := (HBZ.o.cell (cell_blk' z4)).trans z4
                          have z5z := (HBZ.o.cell (cell_blk' z5)).trans z5
                          have z6z := (HBZ.o.cell (cell_blk' z6)).trans z6
                          generalize y.kids.length = yl at *
                          generalize y.pcs.length = yp at *
                          go_wp2_with fail
                          go_region
                          have HBN := hq (below_alloc w6 (.cells #[.int .i64 (y.kd : Int), .int .i64 (y.a : Int), .int .i64 (y.b : Int), .int .i64 (y.ka : Int), .int .i64 (y.kb : Int), .slice za yl zc, .slice zpa yp zpc] 41)).drew
                          have HYN := hq ((Whole.made w6 41 #[.int .i64 (y.kd : Int), .int .i64 (y.a : Int), .int .i64 (y.b : Int), .int .i64 (y.ka : Int), .int .i64 (y.kb : Int), .slice za yl zc, .slice zpa yp zpc]).grow (Below.refl _ _).drew)
                          clear d1z x5z q1z z0z z1z z2z z3z z4z z5z z6z d1 x5 q1 z0 z1 z2 z3 z4 z5 z6 HBZ HX6 HD6
                          have HBN2 := hq (below_trans HBJ.o HBN.o)
                          clear HBN
                          generalize w6.heap.size = bY at *
                          generalize (w6.alloc (.cells #[.int .i64 (y.kd : Int), .int .i64 (y.a : Int), .int .i64 (y.b : Int), .int .i64 (y.ka : Int), .int .i64 (y.kb : Int), .slice za yl zc, .slice zpa yp zpc] 41)).drew = w7 at *
                          have HB7 := hq (below_trans HB5.o HBN2.o)
                          have HX7 := hq (HX5.o.grow HBN2.o)
                          have x6 := HX7.o.at_ 6
                          obtain ⟨r1, r2⟩ := HQ2.o _ HB7.o
                          have HBP := hq (below_alloc w7 (.cells #[.int .i64 (A : Int), .int .i64 (pt : Int)] 33))
                          have HPN := hq (Whole.made w7 33 #[.int .i64 (A : Int), .int .i64 (pt : Int)])
                          clear HBJ HB6
                          go_upto_region 25 with fail
                          clear x6 r1 r2
                          have HBP2 := hq (below_trans HBN2.o HBP.o)
                          have HYP := hq (HYN.o.grow HBP.o)
                          generalize w7.heap.size = bP at *
                          generalize w7.alloc (.cells #[.int .i64 (A : Int), .int .i64 (pt : Int)] 33) = w8 at *
                          clear HBN2 HYN HBP HX7 HB7
                          have HX8 := hq (HX5.o.grow HBP2.o)
                          have x0 := HX8.o.at_ 0
                          have x2 := HX8.o.at_ 2
                          have x5 := HX8.o.at_ 5
                          have y1 := HYP.o.at_ 1
                          have y2 := HYP.o.at_ 2
                          have y3 := HYP.o.at_ 3
                          have y4 := HYP.o.at_ 4
                          have p0 := HPN.o.at_ 0
                          have p1 := HPN.o.at_ 1
                          have hsz : pt < s.size := by omega
                          have HCM := hq HKA.o.cm
                          have HY1 := hq hy1
                          have HY2 := hq hy2
                          have hpz : (pt : Int) < (s.size : Int) := by omega
                          have f1 : ¬ ((X.b : Int) ≤ (pt : Int)) := by omega
                          have f2 : ¬ ((pt : Int) < (y.b : Int)) := by omega
                          have f0 : ((A : Int) != (A : Int)) = false := bne_self_eq_false _
                          have HREL : Hq (T + 1 = S + (j + 1) ∧ pt + 1 = atK (X.a + 1) X.pcs (j + 1)) := hq ⟨by have := HTA.o.1; omega, HKA.o.next⟩
                          clear hy1 hy2 hkne HTA HKA HQ1 HQ2 HYV HX8 HYP HPN HK
                          cases ob with
                          | false =>
                            as_aux_lemma =>
                              have h5 : X.kd = 5 := by have := HKD.o; simpa using this
                              obtain ⟨v1, v2, v3⟩ := HY2.o rfl
                              rw [h5] at x0
                              rw [v2, v3] at y1 y2 y3 y4
                              have f3 : ¬ ((y.a : Int) < (A : Int)) := by omega
                              clear h5 v2 v3 HY1 HY2 HKD HME
                              by_cases hlast : j + 1 < X.kids.length
                              · have hl1 : (j : Int) + 1 < (X.kids.length : Int) := by omega
                                have hbz : (((s[pt]'hsz).toNat : Int) != 44) = false := by rw [← byt_eq s pt hsz, HCM.o hlast]; rfl
                                clear hlast HCM
                                go_wp2_with fail
                                go_roundg (gk - 1)
                                case measure => omega
                                case rel => exact ⟨j + 1, T + 1, pt + 1, by omega, by omega, int_eq (by omega), int_eq (by omega), int_eq (by omega), HREL, HBP2⟩
                              · have hl1 : ¬ (j : Int) + 1 < (X.kids.length : Int) := by omega
                                clear hlast HCM
                                go_wp2_with fail
                                go_roundg (gk - 1)
                                case measure => omega
                                case rel => exact ⟨j + 1, T + 1, pt + 1, by omega, by omega, int_eq (by omega), int_eq (by omega), int_eq (by omega), HREL, HBP2⟩
                          | true =>
                            as_aux_lemma =>
                              have h5 : X.kd = 6 := by have := HKD.o; simpa using this
                              obtain ⟨v1, v2⟩ := HY1.o rfl
                              rw [h5] at x0
                              have f3 : ¬ ((y.ka : Int) < (A : Int)) := by omega
                              have f4 : ¬ ((y.a : Int) ≤ (y.kb : Int)) := by omega
                              clear h5 HY1 HY2 HKD HME
                              by_cases hlast : j + 1 < X.kids.length
                              · have hl1 : (j : Int) + 1 < (X.kids.length : Int) := by omega
                                have hbz : (((s[pt]'hsz).toNat : Int) != 44) = false := by rw [← byt_eq s pt hsz, HCM.o hlast]; rfl
                                clear hlast HCM
                                go_wp2_with fail
                                go_roundg (gk - 1)
                                case measure => omega
                                case rel => exact ⟨j + 1, T + 1, pt + 1, by omega, by omega, int_eq (by omega), int_eq (by omega), int_eq (by omega), HREL, HBP2⟩
                              · have hl1 : ¬ (j : Int) + 1 < (X.kids.length : Int) := by omega
                                clear hlast HCM
                                go_wp2_with fail
                                go_roundg (gk - 1)
                                case measure => omega
                                case rel => exact ⟨j + 1, T + 1, pt + 1, by omega, by omega, int_eq (by omega), int_eq (by omega), int_eq (by omega), HREL, HBP2⟩
                        · have hjz : ¬ (j : Int) < (X.kids.length : Int) := by omega
                          obtain rfl : j = X.kids.length := by omega
                          have HE : Hq (X.kids ≠ [] → A = X.b) := hq (fun h => by rw [HTA.o.2, HK.o.last]; exact HME.o h)
                          have HST : Hq (T = 1 + sumTo (nv.map NV.n) (k + 1)) := hq (by rw [HTA.o.1, HSS.o, HS.o]; omega)
                          clear HTA HK HKD HME
                          have HXW := hq (HX5.o.grow hbi.o)
                          have x5 := HXW.o.at_ 5
                          go_wp2_with fail
                          go_meet
                          exact ⟨T, A, _, rfl, rfl, rfl, HST, HE, hbi⟩
                  case rest =>
                    as_aux_lemma =>
                      obtain ⟨T, A, j, rfl, rfl, rfl, HST, HE, hbi⟩ := hcut
                      have HBW := hq (below_trans HB5.o hbi.o)
                      have HXW := hq (HX5.o.grow hbi.o)
                      clear y0 y1 y2 y5 y6
                      have x2 := HXW.o.at_ 2
                      have x5 := HXW.o.at_ 5
                      clear HXW hbi HKD HK HME
                      by_cases hk0 : 0 < X.kids.length
                      · have hk1 : (0 : Int) < (X.kids.length : Int) := by omega
                        obtain rfl : A = X.b := HE.o (List.length_pos_iff.1 hk0)
                        have f0 : ((X.b : Int) != (X.b : Int)) = false := bne_self_eq_false _
                        clear HE
                        go_wp2_with fail
                        go_roundg (go - 1)
                        case measure => omega
                        case rel => exact ⟨k + 1, T, by omega, by omega, int_eq (by omega), rfl, HST, HBW⟩
                      · have hk1 : ¬ (0 : Int) < (X.kids.length : Int) := by omega
                        clear HE hk0
                        go_wp2_with fail
                        go_roundg (go - 1)
                        case measure => omega
                        case rel => exact ⟨k + 1, T, by omega, by omega, int_eq (by omega), rfl, HST, HBW⟩
            · have n5 : ((X.kd : Int) != 5) = true := bne_iff_ne.2 (by omega)
              have n6 : ((X.kd : Int) != 6) = true := bne_iff_ne.2 (by omega)
              have HL := hq (HNO.o.leaf (by omega) (by omega))
              have h0 : X.kids.length = 0 := by rw [HL.o.1]; rfl
              rw [h0] at y5 y6
              have HST : Hq (S = 1 + sumTo (nv.map NV.n) (k + 1)) := hq (by rw [HSS.o, h0, HS.o]; rfl)
              clear h0 hobj
              go_wp2_with fail
              go_roundg (go - 1)
              case measure => omega
              case rel => exact ⟨k + 1, S, by omega, by omega, int_eq (by omega), rfl, HST, HB5⟩
      · have hkz : ¬ (k : Int) < (nv.length : Int) := by omega
        obtain rfl : k = nv.length := by omega
        have HBE := hq (below_trans HB3.o hb.o)
        have hsum : S = nv.length := by
          have h1 := sumTo_all (nv.map NV.n)
          have h2 := HTR.o.sum
          have h3 := HS.o
          rw [List.length_map] at h1 h2
          omega
        subst hsum
        clear hb
        go_wp2_with fail
        go_ret
        exact ⟨rfl, HBE.o⟩
end Go.Proofs.YtleabaldjlbnlaaDoor
