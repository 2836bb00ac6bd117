/-
  WALKS: scarfref01.SameSpans, of two rows that hold the same spans.
  WALKS: scarfref05.Same, of two Docs that hold the same nodes.
  MEMORY of a Doc that its owner writes over: its rows stay in their places, whatever their cells hold.
  WALKS: a Doc is written over by its owner (spoil of layer 5); the law JsonParses.
-/
import Derived.Test.YtmomildkopainaaDoorJwN
import Derived.Deep.QuietTactic
import Derived.Deep.LoopGhost
import Derived.BigQuiet
import Derived.Test.YtmomildkopainaaDoorJtA
import Derived.Test.YtmomildkopainaaDoorJpE
import Derived.Test.YtmomildkopainaaDoorJsZ
import Derived.Test.YtmomildkopainaaDoorJpI

namespace Go.Proofs.YtmomildkopainaaDoor
open Go.RowKit

set_option maxHeartbeats 1000000 in
set_option maxRecDepth 1000000 in
theorem samespans_any {W : World} {B B' : Nat} {v1 v2 : Value} {l : List (Nat × Nat)} (h1 : W.ownsRow B 49 2 v1 l.length (pcC l)) (h2 : W.ownsRow B' 49 2 v2 l.length (pcC l)) (hl : l.length ≤ 4096) :
    Calls Tryd.prog 31 #[v1, v2] W fun e W' => e = .returned (.bool true) ∧ Below W.heap.size W W' := by
  obtain ⟨a1, c1, rfl⟩ := row_shape h1
  obtain ⟨a2, c2, rfl⟩ := row_shape h2
  have HS := hq (fun k (hk : k < l.length) => And.intro (spans_cell h1 hk) (spans_cell h2 hk))
  clear h1 h2
  go_enter Tryd.func31, Tryd.ntmps31
  go_wp2_with fail
  go_loopg [5] l.length (fun g u wr => ∃ i : Nat, i + g ≤ l.length ∧ l.length ≤ i + g ∧ u = .int .i64 (i : Int) ∧ Hq (Below W.heap.size W wr))
  case atStart => exact ⟨0, by omega, by omega, rfl, hq (Below.refl _ _)⟩
  case round =>
    obtain ⟨i, hi1, hi2, rfl, hb⟩ := hrel
    by_cases hil : i < l.length
    · have hiz : (i : Int) < (l.length : Int) := by omega
      obtain ⟨⟨g1, d1, e1, p1, p2⟩, ⟨g2, d2, e2, q1, q2⟩⟩ := HS.o i hil
      cases e1
      cases e2
      replace p1 := (hb.o.cell (cell_blk' p1)).trans p1
      replace p2 := (hb.o.cell (cell_blk' p2)).trans p2
      replace q1 := (hb.o.cell (cell_blk' q1)).trans q1
      replace q2 := (hb.o.cell (cell_blk' q2)).trans q2
      generalize l[i].1 = x at *
      generalize l[i].2 = y at *
      have HBN := hq (fun n => below_drewN hb.o n)
      go_wp2_with fail
      go_big_quiet (fail)
      go_wp2_with fail
      go_roundg (gk - 1)
      case measure => omega
      case rel => exact ⟨i + 1, by omega, by omega, int_eq (by omega), hq (HBN.o _)⟩
    · have hiz : ¬ (i : Int) < (l.length : Int) := by omega
      have HBE := hq hb.o
      clear hb
      go_wp2_with fail
      go_ret
      exact ⟨rfl, HBE.o⟩
end Go.Proofs.YtmomildkopainaaDoor

namespace Go.Proofs.YtmomildkopainaaDoor
open Go.RowKit

set_option maxHeartbeats 4000000 in
set_option maxRecDepth 1000000 in
theorem same_any {W : World} {B B' : Nat} {s : ByteArray} {n1 n2 : List NV} {o1 o2 : Option Addr} {d1 d2 : Nat} (h1 : DocIn B n1 (.slice o1 n1.length d1) W) (h2 : DocIn B' n2 (.slice o2 n2.length d2) W) (hn : n1.map NV.n = n2.map NV.n) :
    Calls Tryd.prog 10 #[.agg #[.string s, .slice o1 n1.length d1], .agg #[.string s, .slice o2 n2.length d2]] W fun e W' => e = .returned (.bool true) ∧ Below W.heap.size W W' := by
  have hl : n2.length = n1.length := by have := congrArg List.length hn; simpa using this.symm
  have HEQ := hq (fun i (hi : i < n1.length) (hj : i < n2.length) => (by
    have e1 : (n1.map NV.n)[i]? = some n1[i].n := nmapA hi
    have e2 : (n2.map NV.n)[i]? = some n2[i].n := nmapA hj
    rw [hn, e2] at e1
    exact Option.some.inj e1 : n2[i].n = n1[i].n))
  have hb1 := below_alloc W (.cells #[.string s, .slice o1 n1.length d1] 25)
  have hb2 := below_alloc (W.alloc (.cells #[.string s, .slice o1 n1.length d1] 25)) (.cells #[.string s, .slice o2 n2.length d2] 25)
  have hb := below_trans hb1 hb2
  have HB := hq hb
  have HD1 := hq (h1.grow hb)
  have HD2 := hq (h2.grow hb)
  have HX1 := hq ((Whole.made W 25 #[.string s, .slice o1 n1.length d1]).grow hb2)
  have HX2 := hq (Whole.made (W.alloc (.cells #[.string s, .slice o1 n1.length d1] 25)) 25 #[.string s, .slice o2 n2.length d2])
  rw [World.size_alloc] at HX2
  have hn4 := h1.n4
  have HL := hq hl
  have f0 : (s.toList != s.toList) = false := bne_self_eq_false _
  have f1 : ((n1.length : Int) != (n2.length : Int)) = false := by rw [bne_eq_false_iff_eq]; omega
  clear h1 h2 hn hb hb1 hb2 hl
  have x0 := HX1.o.at_ 0
  have x1 := HX1.o.at_ 1
  have y0 := HX2.o.at_ 0
  have y1 := HX2.o.at_ 1
  go_enter Tryd.func10, Tryd.ntmps10
  go_upto_region 1 with fail
  generalize hWW : (W.alloc (.cells #[.string s, .slice o1 n1.length d1] 25)).alloc (.cells #[.string s, .slice o2 n2.length d2] 25) = W1 at *
  clear hWW
  go_wp2_with fail
  clear x0 x1 y0 y1 f0 f1
  go_loopg [5] n1.length (fun g u wr => ∃ i : Nat, i + g ≤ n1.length ∧ n1.length ≤ i + g ∧ u = .int .i64 (i : Int) ∧ Hq (Below W1.heap.size W1 wr))
  case atStart => exact ⟨0, by omega, by omega, rfl, hq (Below.refl _ _)⟩
  case round =>
    generalize gk = go at *
    obtain ⟨i, hi1, hi2, rfl, hbr⟩ := hrel
    have x1 := (HX1.o.grow hbr.o).at_ 1
    by_cases hil : i < n1.length
    · have hiz : (i : Int) < (n1.length : Int) := by omega
      have hil2 : i < n2.length := by have := HL.o; omega
      have hiz2 : (i : Int) < (n2.length : Int) := by omega
      obtain ⟨g1, rfl, HC1⟩ := doc_cells HD1.o (by omega)
      obtain ⟨g2, rfl, HC2⟩ := doc_cells HD2.o (by omega)
      have HKR1 := hq (HD1.o.kr i hil)
      have HPR1 := hq (HD1.o.pr i hil)
      have HKR2 := hq (HD2.o.kr i hil2)
      have HPR2 := hq (HD2.o.pr i hil2)
      have hkl := (HD1.o.kl i hil)
      obtain ⟨ka1, kc1, hk1⟩ := row_shape HKR1.o
      obtain ⟨pa1, pc1, hp1⟩ := row_shape HPR1.o
      obtain ⟨ka2, kc2, hk2⟩ := row_shape HKR2.o
      obtain ⟨pa2, pc2, hp2⟩ := row_shape HPR2.o
      have hE := HEQ.o i hil hil2
      have c0 := HC1 i hil 0 (.int .i64 (n1[i].n.kd : Int)) (by omega) rfl wr (hbr.o)
      have c1 := HC1 i hil 1 (.int .i64 (n1[i].n.a : Int)) (by omega) rfl wr (hbr.o)
      have c2 := HC1 i hil 2 (.int .i64 (n1[i].n.b : Int)) (by omega) rfl wr (hbr.o)
      have c3 := HC1 i hil 3 (.int .i64 (n1[i].n.ka : Int)) (by omega) rfl wr (hbr.o)
      have c4 := HC1 i hil 4 (.int .i64 (n1[i].n.kb : Int)) (by omega) rfl wr (hbr.o)
      have c5 := HC1 i hil 5 n1[i].k (by omega) rfl wr (hbr.o)
      have c6 := HC1 i hil 6 n1[i].p (by omega) rfl wr (hbr.o)
      rw [Nat.add_zero] at c0
      have e0 := HC2 i hil2 0 (.int .i64 (n2[i].n.kd : Int)) (by omega) rfl wr (hbr.o)
      have e1 := HC2 i hil2 1 (.int .i64 (n2[i].n.a : Int)) (by omega) rfl wr (hbr.o)
      have e2 := HC2 i hil2 2 (.int .i64 (n2[i].n.b : Int)) (by omega) rfl wr (hbr.o)
      have e3 := HC2 i hil2 3 (.int .i64 (n2[i].n.ka : Int)) (by omega) rfl wr (hbr.o)
      have e4 := HC2 i hil2 4 (.int .i64 (n2[i].n.kb : Int)) (by omega) rfl wr (hbr.o)
      have e5 := HC2 i hil2 5 n2[i].k (by omega) rfl wr (hbr.o)
      have e6 := HC2 i hil2 6 n2[i].p (by omega) rfl wr (hbr.o)
      rw [Nat.add_zero] at e0
      rw [hk1] at c5 HKR1
      rw [hp1] at c6 HPR1
      rw [hk2] at e5 HKR2
      rw [hp2] at e6 HPR2
      rw [hE] at e0 e1 e2 e3 e4 e5 e6 HKR2 HPR2
      clear hk1 hk2 hp1 hp2 hE HC1 HC2
      generalize n1[i].n = X at *
      have hA := below_alloc wr (.cells #[.int .i64 (X.kd : Int), .int .i64 (X.a : Int), .int .i64 (X.b : Int), .int .i64 (X.ka : Int), .int .i64 (X.kb : Int), .slice ka1 X.kids.length kc1, .slice pa1 X.pcs.length pc1] 53)
      have HA := hq (Whole.made wr 53 #[.int .i64 (X.kd : Int), .int .i64 (X.a : Int), .int .i64 (X.b : Int), .int .i64 (X.ka : Int), .int .i64 (X.kb : Int), .slice ka1 X.kids.length kc1, .slice pa1 X.pcs.length pc1])
      have HBA := hq (below_trans hbr.o hA)
      have y1 := ((HX2.o.grow hbr.o).grow hA).at_ 1
      have e0z := (hA.cell (cell_blk' e0)).trans e0
      have e1z := (hA.cell (cell_blk' e1)).trans e1
      have e2z := (hA.cell (cell_blk' e2)).trans e2
      have e3z := (hA.cell (cell_blk' e3)).trans e3
      have e4z := (hA.cell (cell_blk' e4)).trans e4
      have e5z := (hA.cell (cell_blk' e5)).trans e5
      have e6z := (hA.cell (cell_blk' e6)).trans e6
      clear e0 e1 e2 e3 e4 e5 e6 hA
      go_upto_region 7 with fail
      generalize wr.heap.size = bA at *
      generalize wr.alloc (.cells #[.int .i64 (X.kd : Int), .int .i64 (X.a : Int), .int .i64 (X.b : Int), .int .i64 (X.ka : Int), .int .i64 (X.kb : Int), .slice ka1 X.kids.length kc1, .slice pa1 X.pcs.length pc1] 53) = W2 at *
      clear c0 c1 c2 c3 c4 c5 c6 x1
      have hC := below_alloc W2 (.cells #[.int .i64 (X.kd : Int), .int .i64 (X.a : Int), .int .i64 (X.b : Int), .int .i64 (X.ka : Int), .int .i64 (X.kb : Int), .slice ka2 X.kids.length kc2, .slice pa2 X.pcs.length pc2] 53)
      have HC := hq (Whole.made W2 53 #[.int .i64 (X.kd : Int), .int .i64 (X.a : Int), .int .i64 (X.b : Int), .int .i64 (X.ka : Int), .int .i64 (X.kb : Int), .slice ka2 X.kids.length kc2, .slice pa2 X.pcs.length pc2])
      have HBC := hq (below_trans HBA.o hC)
      have HA2 := hq (HA.o.grow hC)
      clear hC
      go_upto_region 8 with fail
      generalize W2.heap.size = bC at *
      generalize W2.alloc (.cells #[.int .i64 (X.kd : Int), .int .i64 (X.a : Int), .int .i64 (X.b : Int), .int .i64 (X.ka : Int), .int .i64 (X.kb : Int), .slice ka2 X.kids.length kc2, .slice pa2 X.pcs.length pc2] 53) = W3 at *
      clear y1 e0z e1z e2z e3z e4z e5z e6z
      have a0 := HA2.o.at_ 0
      have a1 := HA2.o.at_ 1
      have a2 := HA2.o.at_ 2
      have a3 := HA2.o.at_ 3
      have a4 := HA2.o.at_ 4
      have a5 := HA2.o.at_ 5
      have a6 := HA2.o.at_ 6
      have b0 := HC.o.at_ 0
      have b1 := HC.o.at_ 1
      have b2 := HC.o.at_ 2
      have b3 := HC.o.at_ 3
      have b4 := HC.o.at_ 4
      have b5 := HC.o.at_ 5
      have b6 := HC.o.at_ 6
      have f1 : ((X.kd : Int) != (X.kd : Int)) = false := bne_self_eq_false _
      have f2 : ((X.kids.length : Int) != (X.kids.length : Int)) = false := bne_self_eq_false _
      have HSS := hq (samespans_any (row_fr (HPR1.o) (Fr.of_below (fun _ => False) HBC.o) (fun _ _ h => h)) (row_fr (HPR2.o) (Fr.of_below (fun _ => False) HBC.o) (fun _ _ h => h)) (by omega))
      have HKC : Hq (∀ q, q < X.kids.length → ∃ gA gB y : Nat, ka1 = some ⟨gA, 0, none⟩ ∧ ka2 = some ⟨gB, 0, none⟩ ∧ ∀ wx, Below W1.heap.size W1 wx → wx.cell? ⟨gA, q, none⟩ = some (.int .i64 (y : Int)) ∧ wx.cell? ⟨gB, q, none⟩ = some (.int .i64 (y : Int))) := hq (fun q hq => by
        obtain ⟨gA, cA, e1, q1⟩ := nids_cell HKR1.o hq
        obtain ⟨gB, cB, e2, q2⟩ := nids_cell HKR2.o hq
        injection e1 with e1 _ _
        injection e2 with e2 _ _
        exact ⟨gA, gB, X.kids[q], e1, e2, fun wx hb => ⟨(hb.cell (cell_blk' q1)).trans q1, (hb.cell (cell_blk' q2)).trans q2⟩⟩)
      have hkl4 : X.kids.length ≤ 4096 := by omega
      clear HPR1 HPR2 HKR1 HKR2 HA HBA
      go_wp2_with fail
      refine HSS.o.mono ?_
      rintro e W4 ⟨rfl, hb⟩
      have HBD := hq (below_trans HBC.o hb)
      have HA4 := hq (HA2.o.grow hb)
      have HC4 := hq (HC.o.grow hb)
      clear hb HSS HBC HA2 HC a0 a1 a2 a3 a4 a5 a6 b0 b1 b2 b3 b4 b5 b6 f1 f2
      have a5 := HA4.o.at_ 5
      go_wp2_with fail
      go_loopg [8] X.kids.length (fun g u wx => ∃ q : Nat, q + g ≤ X.kids.length ∧ X.kids.length ≤ q + g ∧ u = .int .i64 (q : Int) ∧ Hq (Below W4.heap.size W4 wx))
      case atStart => exact ⟨0, by omega, by omega, rfl, hq (Below.refl _ _)⟩
      case round =>
        clear a5
        obtain ⟨q, hq1, hq2, rfl, hbq⟩ := hrel
        have a5 := (HA4.o.grow hbq.o).at_ 5
        have b5 := (HC4.o.grow hbq.o).at_ 5
        have HBQ := hq (below_trans HBD.o hbq.o)
        by_cases hql : q < X.kids.length
        · have hqz : (q : Int) < (X.kids.length : Int) := by omega
          obtain ⟨gA, gB, y, rfl, rfl, HQ⟩ := HKC.o q hql
          obtain ⟨q1, q2⟩ := HQ _ HBQ.o
          have HBN := hq (fun n => below_drewN hbq.o n)
          have f1 : ((y : Int) != (y : Int)) = false := bne_self_eq_false _
          clear HQ
          go_wp2_with fail
          go_big_quiet (fail)
          go_wp2_with fail
          go_roundg (gk - 1)
          case measure => omega
          case rel => exact ⟨q + 1, by omega, by omega, int_eq (by omega), hq (HBN.o _)⟩
        · have hqz : ¬ (q : Int) < (X.kids.length : Int) := by omega
          clear hql
          go_wp2_with fail
          go_roundg (go - 1)
          case measure => omega
          case rel => exact ⟨i + 1, by omega, by omega, int_eq (by omega), HBQ⟩
    · have hiz : ¬ (i : Int) < (n1.length : Int) := by omega
      have HBE := hq (below_trans HB.o hbr.o)
      go_wp2_with fail
      go_ret
      exact ⟨rfl, HBE.o⟩
end Go.Proofs.YtmomildkopainaaDoor

namespace Go.Proofs.YtmomildkopainaaDoor
open Go.RowKit

/-- a Doc's rows: where they lie, whatever they hold -/
structure SpI (B : Nat) (nv : List NV) (vN : Value) (W : World) : Prop where
  nd : ∃ cs, W.ownsRow B 53 7 vN nv.length cs ∧ ∀ i (hi : i < nv.length), cs[i * 7 + 5]? = some nv[i].k ∧ cs[i * 7 + 6]? = some nv[i].p
  kr : ∀ i (hi : i < nv.length), ∃ cs, W.ownsRow B 3 1 nv[i].k nv[i].n.kids.length cs
  pr : ∀ i (hi : i < nv.length), ∃ cs, W.ownsRow B 49 2 nv[i].p nv[i].n.pcs.length cs
  ak : ∀ i j (hi : i < nv.length) (hj : j < nv.length), i ≠ j → ∀ q, nv[i].k.ownBlock = some q → nv[j].k.ownBlock ≠ some q
  ap : ∀ i j (hi : i < nv.length) (hj : j < nv.length), i ≠ j → ∀ q, nv[i].p.ownBlock = some q → nv[j].p.ownBlock ≠ some q
  n4 : nv.length ≤ 4096
  kl : ∀ i (hi : i < nv.length), nv[i].n.kids.length ≤ nv.length ∧ nv[i].n.pcs.length ≤ nv.length
section
variable {B : Nat} {nv : List NV} {vN : Value} {W W' : World}
theorem DocIn.rows (h : DocIn B nv vN W) : SpI B nv vN W := by
  refine ⟨⟨_, h.nd, fun i hi => ⟨?_, ?_⟩⟩, fun i hi => ⟨_, h.kr i hi⟩, fun i hi => ⟨_, h.pr i hi⟩, h.ak, h.ap, h.n4, h.kl⟩
  · rw [nodeCells_at nv i 5 hi (by omega)]; rfl
  · rw [nodeCells_at nv i 6 hi (by omega)]; rfl
theorem SpI.grow (h : SpI B nv vN W) (hb : Below W.heap.size W W') : SpI B nv vN W' := by
  have hg : W.grownBy W' none := ⟨hb.os, hb.tape, hb.output, hb.size, fun j hj _ => hb.block j hj⟩
  have hn : ∀ (v : Value) (b : Nat), (none : Option Nat) = some b → v.ownBlock ≠ some b := fun v b e => by cases e
  obtain ⟨cs, h1, h2⟩ := h.nd
  exact ⟨⟨cs, row_kept h1 hg (hn _), h2⟩, fun i hi => by obtain ⟨cs, h⟩ := h.kr i hi; exact ⟨cs, row_kept h hg (hn _)⟩, fun i hi => by obtain ⟨cs, h⟩ := h.pr i hi; exact ⟨cs, row_kept h hg (hn _)⟩, h.ak, h.ap, h.n4, h.kl⟩
/-- a cell of a row, whatever it holds -/
theorem own_cell {B e size n : Nat} {v : Value} {cs : List Value} {W : World} (h : W.ownsRow B e size v n cs) {j : Nat} (hj : j < n * size) : ∃ g c u, v = .slice (some ⟨g, 0, none⟩) n c ∧ B ≤ g ∧ cs[j]? = some u ∧ W.cell? ⟨g, j, none⟩ = some u ∧ ∀ o, W.frozen? ⟨g, o, none⟩ = false := by
  rcases h.2 with ⟨_, h0⟩ | ⟨g, cap, cur, hv, hB, hh, hc, hm, _⟩
  · rw [h0, Nat.zero_mul] at hj; omega
  · have hl : j < cs.length := by rw [h.1]; exact hj
    have hu : cs[j]? = some cs[j] := List.getElem?_eq_getElem hl
    have hcl := h.cells (g := g) (by rw [hv]; rfl) j _ hu
    rw [Addr.add_lit, Nat.zero_add] at hcl
    exact ⟨g, cap, cs[j], hv, hB, hu, hcl, fun o => frozen_of_row W g o cur _ hh⟩
/-- a kid's number is written over -/
theorem SpI.putK (h : SpI B nv vN W) {i : Nat} (hi : i < nv.length) {g c : Nat} (hv : nv[i].k = .slice (some ⟨g, 0, none⟩) nv[i].n.kids.length c) {k : Nat} (hk : k < nv[i].n.kids.length) (u : Value) : SpI B nv vN (W.setCell ⟨g, k, none⟩ u) := by
  have hg := set_grown W ⟨g, k, none⟩ u
  obtain ⟨cs, h1, h2⟩ := h.nd
  obtain ⟨ks, h3⟩ := h.kr i hi
  have hko : nv[i].k.ownBlock = some g := by rw [hv]; rfl
  have hne : ∀ {e size n : Nat} {v : Value} {xs : List Value}, W.ownsRow B e size v n xs → e ≠ 3 → ∀ b, some (⟨g, k, none⟩ : Addr).block = some b → v.ownBlock ≠ some b := fun ho hd b e => by
    cases e
    exact fun e3 => own_apart ho h3 hd g e3 hko
  refine ⟨⟨cs, row_kept h1 hg (hne h1 (by decide)), h2⟩, fun j hj => ?_, fun j hj => by obtain ⟨ps, h4⟩ := h.pr j hj; exact ⟨ps, row_kept h4 hg (hne h4 (by decide))⟩, h.ak, h.ap, h.n4, h.kl⟩
  by_cases e : j = i
  · subst e
    rw [hv] at h3 ⊢
    rcases row_putc h3 k u with h5 | h5
    · exact ⟨_, h5⟩
    · omega
  · obtain ⟨ks', h4⟩ := h.kr j hj
    exact ⟨ks', row_kept h4 hg fun b e2 => by cases e2; exact h.ak i j hi hj (fun e3 => e e3.symm) g hko⟩
/-- a piece is written over -/
theorem SpI.putP (h : SpI B nv vN W) {i : Nat} (hi : i < nv.length) {g c : Nat} (hv : nv[i].p = .slice (some ⟨g, 0, none⟩) nv[i].n.pcs.length c) {k : Nat} (hk : k < nv[i].n.pcs.length * 2) (u : Value) : SpI B nv vN (W.setCell ⟨g, k, none⟩ u) := by
  have hg := set_grown W ⟨g, k, none⟩ u
  obtain ⟨cs, h1, h2⟩ := h.nd
  obtain ⟨ks, h3⟩ := h.pr i hi
  have hko : nv[i].p.ownBlock = some g := by rw [hv]; rfl
  have hne : ∀ {e size n : Nat} {v : Value} {xs : List Value}, W.ownsRow B e size v n xs → e ≠ 49 → ∀ b, some (⟨g, k, none⟩ : Addr).block = some b → v.ownBlock ≠ some b := fun ho hd b e => by
    cases e
    exact fun e3 => own_apart ho h3 hd g e3 hko
  refine ⟨⟨cs, row_kept h1 hg (hne h1 (by decide)), h2⟩, fun j hj => by obtain ⟨ps, h4⟩ := h.kr j hj; exact ⟨ps, row_kept h4 hg (hne h4 (by decide))⟩, fun j hj => ?_, h.ak, h.ap, h.n4, h.kl⟩
  by_cases e : j = i
  · subst e
    rw [hv] at h3 ⊢
    rcases row_putc h3 k u with h5 | h5
    · exact ⟨_, h5⟩
    · omega
  · obtain ⟨ks', h4⟩ := h.pr j hj
    exact ⟨ks', row_kept h4 hg fun b e2 => by cases e2; exact h.ap i j hi hj (fun e3 => e e3.symm) g hko⟩
/-- a node's kind is written over -/
theorem SpI.putN (h : SpI B nv vN W) {g c : Nat} (hv : vN = .slice (some ⟨g, 0, none⟩) nv.length c) {i : Nat} (hi : i < nv.length) (u : Value) : SpI B nv vN (W.setCell ⟨g, i * 7, none⟩ u) := by
  have hg := set_grown W ⟨g, i * 7, none⟩ u
  obtain ⟨cs, h1, h2⟩ := h.nd
  have hko : vN.ownBlock = some g := by rw [hv]; rfl
  have hne : ∀ {e size n : Nat} {v : Value} {xs : List Value}, W.ownsRow B e size v n xs → e ≠ 53 → ∀ b, some (⟨g, i * 7, none⟩ : Addr).block = some b → v.ownBlock ≠ some b := fun ho hd b e => by
    cases e
    exact fun e3 => own_apart ho h1 hd g e3 hko
  refine ⟨⟨cs.set (i * 7) u, ?_, fun j hj => ?_⟩, fun j hj => by obtain ⟨ps, h4⟩ := h.kr j hj; exact ⟨ps, row_kept h4 hg (hne h4 (by decide))⟩, fun j hj => by obtain ⟨ps, h4⟩ := h.pr j hj; exact ⟨ps, row_kept h4 hg (hne h4 (by decide))⟩, h.ak, h.ap, h.n4, h.kl⟩
  · rw [hv] at h1 ⊢
    rcases row_putc h1 (i * 7) u with h5 | h5
    · exact h5
    · omega
  · rw [List.getElem?_set_ne (by omega), List.getElem?_set_ne (by omega)]
    exact h2 j hj
end
/-- what the writer-over holds: the rows, the box of the Doc -/
structure SpW (B : Nat) (nv : List NV) (o : Option Addr) (c : Nat) (t : ByteArray) (bD : Nat) (W W' : World) : Prop where
  s : SpI B nv (.slice o nv.length c) W'
  x : Whole W' bD 25 #[.string t, .slice o nv.length c]
  b : Below B W W'
section
variable {B : Nat} {nv : List NV} {o : Option Addr} {c : Nat} {t : ByteArray} {bD : Nat} {W W' W'' : World}
theorem SpW.grow (h : SpW B nv o c t bD W W') (hb : Below W'.heap.size W' W'') (hB : B ≤ W'.heap.size) : SpW B nv o c t bD W W'' := ⟨h.s.grow hb, h.x.grow hb, h.b.trans (hb.mono hB)⟩
theorem SpW.node (h : SpW B nv o c t bD W W') {i : Nat} (hi : i < nv.length) : ∃ gN ka kc pa pc u, o = some ⟨gN, 0, none⟩ ∧ nv[i].k = .slice ka nv[i].n.kids.length kc ∧ nv[i].p = .slice pa nv[i].n.pcs.length pc ∧ W'.cell? ⟨gN, i * 7 + 5, none⟩ = some (.slice ka nv[i].n.kids.length kc) ∧ W'.cell? ⟨gN, i * 7 + 6, none⟩ = some (.slice pa nv[i].n.pcs.length pc) ∧ W'.cell? ⟨gN, i * 7, none⟩ = some u ∧ ∀ o, W'.frozen? ⟨gN, o, none⟩ = false := by
  obtain ⟨cs, h1, h2⟩ := h.s.nd
  obtain ⟨g, c', u, e, _, e5, c5, hf⟩ := own_cell h1 (j := i * 7 + 5) (by omega)
  obtain ⟨g6, c6', u6, e', _, e6, c6, _⟩ := own_cell h1 (j := i * 7 + 6) (by omega)
  obtain ⟨g0, c0', u0, e'', _, _, c0, _⟩ := own_cell h1 (j := i * 7) (by omega)
  cases e
  cases e'
  cases e''
  obtain ⟨k5, k6⟩ := h2 i hi
  rw [k5] at e5
  rw [k6] at e6
  obtain ⟨ks, h3⟩ := h.s.kr i hi
  obtain ⟨ps, h4⟩ := h.s.pr i hi
  obtain ⟨ka, kc, hk⟩ := row_shape h3
  obtain ⟨pa, pc, hp⟩ := row_shape h4
  exact ⟨g, ka, kc, pa, pc, u0, rfl, hk, hp, by rw [c5, ← e5, hk], by rw [c6, ← e6, hp], c0, hf⟩
theorem SpW.kid (h : SpW B nv o c t bD W W') {i : Nat} (hi : i < nv.length) {k : Nat} (hk : k < nv[i].n.kids.length) : ∃ g kc u, nv[i].k = .slice (some ⟨g, 0, none⟩) nv[i].n.kids.length kc ∧ W'.cell? ⟨g, k, none⟩ = some u ∧ (∀ o, W'.frozen? ⟨g, o, none⟩ = false) ∧ ∀ u, SpW B nv o c t bD W (W'.setCell ⟨g, k, none⟩ u) := by
  obtain ⟨ks, h3⟩ := h.s.kr i hi
  obtain ⟨g, kc, u, e, hB, _, hc, hf⟩ := own_cell h3 (j := k) (by omega)
  exact ⟨g, kc, u, e, hc, hf, fun u => ⟨h.s.putK hi e hk u, h.x.far (p := ⟨g, k, none⟩) (fun e2 => whole_apart h3 h.x (by decide) (by rw [e]; exact congrArg some e2.symm)) u, h.b.setCell hB u⟩⟩
theorem SpW.pc (h : SpW B nv o c t bD W W') {i : Nat} (hi : i < nv.length) {k : Nat} (hk : k < nv[i].n.pcs.length) : ∃ g pc u, nv[i].p = .slice (some ⟨g, 0, none⟩) nv[i].n.pcs.length pc ∧ W'.cell? ⟨g, k * 2, none⟩ = some u ∧ (∀ o, W'.frozen? ⟨g, o, none⟩ = false) ∧ ∀ u, SpW B nv o c t bD W (W'.setCell ⟨g, k * 2, none⟩ u) := by
  obtain ⟨ks, h3⟩ := h.s.pr i hi
  obtain ⟨g, kc, u, e, hB, _, hc, hf⟩ := own_cell h3 (j := k * 2) (by omega)
  exact ⟨g, kc, u, e, hc, hf, fun u => ⟨h.s.putP hi e (by omega) u, h.x.far (p := ⟨g, k * 2, none⟩) (fun e2 => whole_apart h3 h.x (by decide) (by rw [e]; exact congrArg some e2.symm)) u, h.b.setCell hB u⟩⟩
theorem SpW.kind (h : SpW B nv o c t bD W W') {i : Nat} (hi : i < nv.length) {gN : Nat} (ho : o = some ⟨gN, 0, none⟩) (u : Value) : SpW B nv o c t bD W (W'.setCell ⟨gN, i * 7, none⟩ u) := by
  obtain ⟨cs, h1, _⟩ := h.s.nd
  have hB := (h1.lt gN (by rw [ho]; rfl)).1
  exact ⟨h.s.putN (by rw [ho]) hi u, h.x.far (p := ⟨gN, i * 7, none⟩) (fun e2 => whole_apart h1 h.x (by decide) (by rw [ho]; exact congrArg some e2.symm)) u, h.b.setCell hB u⟩
end
end Go.Proofs.YtmomildkopainaaDoor

namespace Go.Proofs.YtmomildkopainaaDoor
open Go.RowKit

set_option maxHeartbeats 2000000 in
set_option maxRecDepth 1000000 in
theorem spoil_any {W : World} {B : Nat} {nv : List NV} {t : ByteArray} {o : Option Addr} {c : Nat} (h : DocIn B nv (.slice o nv.length c) W) (hB : B ≤ W.heap.size) :
    Calls Tryd.prog 11 #[.agg #[.string t, .slice o nv.length c]] W fun e W' => e = .returned (.tuple #[]) ∧ Below B W W' := by
  have hb1 := below_alloc W (.cells #[.string t, .slice o nv.length c] 25)
  have HW0 : Hq (SpW B nv o c t W.heap.size W (W.alloc (.cells #[.string t, .slice o nv.length c] 25))) := hq ⟨(h.grow hb1).rows, Whole.made W _ _, hb1.mono hB⟩
  have hn4 := h.n4
  have HKL := hq (fun i (hi : i < nv.length) => h.kl i hi)
  clear h hb1
  go_enter Tryd.func11, Tryd.ntmps11
  go_upto_region 1 with fail
  generalize W.alloc (.cells #[.string t, .slice o nv.length c] 25) = W1 at *
  generalize W.heap.size = bD at *
  go_wp2_with fail
  go_loopg [2, 3, 4] nv.length (fun gk u _ _ wr => ∃ i : Nat, i + gk ≤ nv.length ∧ nv.length ≤ i + gk ∧ u = .int .i64 (i : Int) ∧ Hq (SpW B nv o c t bD W wr))
  case atStart => exact ⟨0, by omega, by omega, rfl, HW0⟩
  case round =>
    generalize gk = go at *
    obtain ⟨i, hi1, hi2, rfl, hw⟩ := hrel
    clear HW0
    have x1 := hw.o.x.at_ 1
    by_cases hil : i < nv.length
    · have hiz : (i : Int) < (nv.length : Int) := by omega
      obtain ⟨hk4, hp4⟩ := HKL.o i hil
      go_wp2_with fail
      clear x1
      go_loopg [3] nv[i].n.kids.length (fun gk u wy => ∃ k : Nat, k + gk ≤ nv[i].n.kids.length ∧ nv[i].n.kids.length ≤ k + gk ∧ u = .int .i64 (k : Int) ∧ Hq (SpW B nv o c t bD W wy))
      case atStart => exact ⟨0, by omega, by omega, rfl, hw⟩
      case round =>
        clear hw
        obtain ⟨k, hk1, hk2, rfl, hw⟩ := hrel
        have x1 := hw.o.x.at_ 1
        obtain ⟨gN, ka, kc, pa, pc, u0, rfl, ek, ep, c5, c6, c0, cf⟩ := hw.o.node hil
        have HN := hq (And.intro ek ep)
        by_cases hkl : k < nv[i].n.kids.length
        · have hkz : (k : Int) < (nv[i].n.kids.length : Int) := by omega
          obtain ⟨g, kc', u, e1, d0, df, HS⟩ := hw.o.kid hil hkl
          have HSS := hq (HS (.int .i64 (-7)))
          rw [e1] at ek
          cases ek
          clear HS hw HN ep e1
          generalize nv[i].n.kids.length = nk at *
          go_wp2_with fail
          go_roundg (gk - 1)
          case measure => omega
          case rel => exact ⟨k + 1, by omega, by omega, int_eq (by omega), HSS⟩
        · have hkz : ¬ (k : Int) < (nv[i].n.kids.length : Int) := by omega
          have HW := hq hw.o
          clear hw ek ep HN
          go_wp2_with fail
          clear x1 c5 c6 c0 cf
          go_loopg [4] nv[i].n.pcs.length (fun gk u wy => ∃ k : Nat, k + gk ≤ nv[i].n.pcs.length ∧ nv[i].n.pcs.length ≤ k + gk ∧ u = .int .i64 (k : Int) ∧ Hq (SpW B nv (some ⟨gN, 0, none⟩) c t bD W wy))
          case atStart => exact ⟨0, by omega, by omega, rfl, HW⟩
          case round =>
            clear HW
            obtain ⟨k, hk1, hk2, rfl, hw⟩ := hrel
            have x1 := hw.o.x.at_ 1
            obtain ⟨gN', ka, kc, pa, pc, u0, he, ek, ep, c5, c6, c0, cf⟩ := hw.o.node hil
            cases he
            by_cases hkl : k < nv[i].n.pcs.length
            · have hkz2 : (k : Int) < (nv[i].n.pcs.length : Int) := by omega
              obtain ⟨g, kc', u, e1, d0, df, HS⟩ := hw.o.pc hil hkl
              have HSS := hq (HS (.int .i64 (-7)))
              rw [e1] at ep
              cases ep
              clear HS hw ek e1
              generalize nv[i].n.pcs.length = nk at *
              go_wp2_with fail
              go_roundg (gk - 1)
              case measure => omega
              case rel => exact ⟨k + 1, by omega, by omega, int_eq (by omega), HSS⟩
            · have hkz2 : ¬ (k : Int) < (nv[i].n.pcs.length : Int) := by omega
              have HSS := hq (hw.o.kind hil rfl (.int .i64 (-7)))
              clear hw ek ep
              go_wp2_with fail
              go_roundg (go - 1)
              case measure => omega
              case rel => exact ⟨i + 1, by omega, by omega, int_eq (by omega), HSS⟩
    · have hiz : ¬ (i : Int) < (nv.length : Int) := by omega
      have HV := hq hw.o.b
      clear hw
      go_wp2_with fail
      go_end0
      exact ⟨rfl, HV.o⟩
/-- what Parse leaves, in one form -/
theorem jpost_doc {s : ByteArray} {W W' : World} {e : Ending} (h : JParsePost s W e W') : ∃ t n er ns, (t, n, er, ns) = (match jparseM s with
      | .inl (wh, er) => ((⟨#[]⟩ : ByteArray), (wh : Int), er, ([] : List JN))
      | .inr ns => (s, (s.size : Int), 0, ns)) ∧ ∃ nv o c, e = .returned (.tuple #[.agg #[.string t, .slice o nv.length c], .int .i64 n, .int .i64 er]) ∧ DocIn W.heap.size nv (.slice o nv.length c) W' ∧ nv.map NV.n = ns ∧ Below W.heap.size W W' := by
  unfold JParsePost at h
  cases hp : jparseM s with
  | inl p =>
    obtain ⟨wh, er⟩ := p
    rw [hp] at h
    obtain ⟨h1, h2⟩ := h
    refine ⟨_, _, _, _, rfl, [], none, 0, h1, ⟨World.ownsRow_nil _ _ _ _, fun i hi => absurd hi (Nat.not_lt_zero _), fun i hi => absurd hi (Nat.not_lt_zero _), fun i j hi => absurd hi (Nat.not_lt_zero _), fun i j hi => absurd hi (Nat.not_lt_zero _), Nat.zero_le _, fun i hi => absurd hi (Nat.not_lt_zero _)⟩, rfl, h2⟩
  | inr ns =>
    rw [hp] at h
    obtain ⟨nv, vN, h1, h2, h3, h4⟩ := h
    obtain ⟨o, c, rfl⟩ := row_shape h2.nd
    exact ⟨_, _, _, _, rfl, nv, o, c, h1, h2, h3, h4⟩
set_option maxHeartbeats 2000000 in
set_option maxRecDepth 1000000 in
theorem jparses_any (s : ByteArray) (W : World) (hT : tabs W) (hs : s.size ≤ maxLen) :
    Calls Tryd.prog 3 #[.string s] W fun e W' => e = .returned (.bool true) ∧ Below W.heap.size W W' := by
  have HS := hq (jsmall_any W hT)
  have HPA := hq (fun WW (hb : Below W.heap.size W WW) => jparse_any s WW (tabs_grow hT hb) hs)
  have HPR := hq (fun WW => rjparse_any s WW hs)
  clear hT
  unfold maxLen at hs
  go_enter Tryd.func3, Tryd.ntmps3
  go_wp2_with fail
  refine HS.o.mono ?_
  rintro e W1 ⟨rfl, hb1⟩
  have HB1 := hq hb1
  clear hb1 HS
  by_cases hbig : 4096 < s.size
  · have hz1 : (4096 : Int) < (s.size : Int) := by omega
    clear HPA HPR
    go_wp2_with fail
    first | exact ⟨rfl, HB1.o⟩ | (go_ret; exact ⟨rfl, HB1.o⟩)
  · have hz1 : ¬ (4096 : Int) < (s.size : Int) := by omega
    have HP := hq (HPR.o W1)
    clear HPR hbig
    go_wp2_with fail
    refine HP.o.mono ?_
    rintro e W2 hp
    obtain ⟨t, n, er, ns, HRES, nx, ox, cx, rfl, hdx, hnx, hb2⟩ := jpost_doc hp
    have HR := hq HRES
    have hbx := below_alloc W2 (.cells #[.string t, .slice ox nx.length cx] 25)
    have HDX := hq (hdx.grow hbx)
    have HWX := hq (Whole.made W2 25 #[.string t, .slice ox nx.length cx])
    have HB3 := hq (below_trans (below_trans HB1.o hb2) hbx)
    have HNX := hq hnx
    have HBX1 := hq hb2.size
    clear hp HRES hdx hnx hb2 hbx HP HB1
    go_wp2_with fail
    generalize W2.heap.size = bX at *
    generalize W2.alloc (.cells #[.string t, .slice ox nx.length cx] 25) = W3 at *
    go_loopg [7, 8, 9, 10, 11] 2 (fun gk u _ _ _ _ wr => ∃ i : Nat, i + gk ≤ 2 ∧ 2 ≤ i + gk ∧ u = .int .i64 (i : Int) ∧ Hq (DocIn W1.heap.size nx (.slice ox nx.length cx) wr) ∧ Hq (Whole wr bX 25 #[.string t, .slice ox nx.length cx]) ∧ Hq (Below W.heap.size W wr))
    case atStart => exact ⟨0, by omega, by omega, rfl, HDX, HWX, HB3⟩
    case round =>
      clear HDX HWX HB3
      obtain ⟨i, hi1, hi2, rfl, hdx, hwx, hb⟩ := hrel
      by_cases hil : i < 2
      · have hiz : (i : Int) < 2 := by omega
        have HP := hq (HPA.o wr hb.o)
        go_wp2_with fail
        refine HP.o.mono ?_
        rintro e W5 hp
        obtain ⟨t', n', er', ns', HRES', nd, od, cd, rfl, hdd, hnd, hb5⟩ := jpost_doc hp
        have hrr := HR.o.trans HRES'.symm
        injection hrr with e1 hrr
        injection hrr with e2 hrr
        injection hrr with e3 e4
        subst e1 e2 e3
        have hb6 := below_alloc W5 (.cells #[.string t, .slice od nd.length cd] 25)
        have hsz5 := hb5.size
        have HDD := hq (hdd.grow hb6)
        have HWD := hq (Whole.made W5 25 #[.string t, .slice od nd.length cd])
        have HDX6 := hq ((hdx.o.grow hb5).grow hb6)
        have HWX6 := hq ((hwx.o.grow hb5).grow hb6)
        have HB6 := hq (below_trans (below_trans hb.o hb5) hb6)
        have HBR := hq (below_trans hb5 hb6)
        have HEQ : Hq (nd.map NV.n = nx.map NV.n) := hq (by rw [hnd, ← e4, ← HNX.o])
        have HSZ := hq HBR.o.size
        have HKX := hq (And.intro hdx.o (And.intro hwx.o hb.o))
        clear hp HRES' hdd hnd hb5 hb6 HP e4 hdx hwx hb
        go_upto_region 9 with fail
        generalize W5.heap.size = bD at *
        generalize W5.alloc (.cells #[.string t, .slice od nd.length cd] 25) = W6 at *
        have x0 := HWX6.o.at_ 0
        have x1 := HWX6.o.at_ 1
        have y0 := HWD.o.at_ 0
        have y1 := HWD.o.at_ 1
        have HSM := hq (same_any (s := t) HDD.o HDX6.o HEQ.o)
        go_wp2_with fail
        refine HSM.o.mono ?_
        rintro e W7 ⟨rfl, hb7⟩
        have HDD7 := hq (HDD.o.grow hb7)
        have y0 := (HWD.o.grow hb7).at_ 0
        have y1 := (HWD.o.grow hb7).at_ 1
        have HB7 := hq (below_trans HBR.o hb7)
        have HS7 := hb7.size
        have HSP := hq (spoil_any (t := t) HDD7.o (Nat.le_trans HSZ.o HS7))
        clear hb7 HSM HDD HDX6 HWX6 HB6 HEQ x0 x1 HWD HDD7
        go_wp2_with fail
        refine HSP.o.mono ?_
        rintro e W8 ⟨rfl, hb8⟩
        have hball := HB7.o.trans hb8
        have HDX8 := hq (HKX.o.1.grow hball)
        have HWX8 := hq (HKX.o.2.1.grow hball)
        have HB8 := hq (below_trans HKX.o.2.2 hball)
        clear hb8 HSP hball HKX HB7 y0 y1
        have f1 : (n != n) = false := bne_self_eq_false _
        have f2 : (er != er) = false := bne_self_eq_false _
        go_wp2_with fail
        go_roundg (gk - 1)
        case measure => omega
        case rel => exact ⟨i + 1, by omega, by omega, int_eq (by omega), HDX8, HWX8, HB8⟩
      · have hiz : ¬ (i : Int) < 2 := by omega
        have HV := hq hb.o
        clear hdx hwx hb HPA
        go_wp2_with fail
        first | exact ⟨rfl, HV.o⟩ | (go_ret; exact ⟨rfl, HV.o⟩)
end Go.Proofs.YtmomildkopainaaDoor
