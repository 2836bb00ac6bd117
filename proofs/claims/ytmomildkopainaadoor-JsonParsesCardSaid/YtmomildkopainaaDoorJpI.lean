/-
  WALK: the document's Parse of layer 5, whole.
-/
import Derived.Test.YtmomildkopainaaDoorJpE
import Derived.Test.YtmomildkopainaaDoorRLexK
import Derived.Test.YtmomildkopainaaDoorJwM
namespace Go.Proofs.YtmomildkopainaaDoor
open Go.RowKit

theorem Pd.doc {w0 W : World} {g : Nat} {s : ByteArray} {L : List Tok} {vL : Value} {k : Nat} {r : RS} (h : Pd w0 g s L vL k r W) {B : Nat} (hB : B ≤ w0.heap.size) : DocIn B r.nv r.vN W :=
  ⟨row_base' h.nd hB, fun i hi => row_base' (h.kr i hi) hB, fun i hi => row_base' (h.pr i hi) hB, h.ak, h.ap, h.n4, h.kl⟩
/-- the tokens without blanks, so far -/
structure PsI (w3 : World) (s : ByteArray) (l : List Tok) (vL : Value) (W : World) : Prop where
  blk : Whole W w3.heap.size 59 #[.string s, vL, .int .i64 0, .slice none 0 0, .int .i64 0, .int .i64 0]
  tk : W.ownsRow w3.heap.size 61 3 vL l.length (tokCells l)
  bl : Below w3.heap.size w3 W
def rs0 : RS := ⟨[], none, 0, [], .slice none 0 0, 0, 0⟩
theorem PsI.done {w3 W : World} {s : ByteArray} {l : List Tok} {vL : Value} (h : PsI w3 s l vL W) (hl : ∀ t ∈ l, t.2.1 ≤ t.2.2 ∧ t.2.2 ≤ s.size) : Pd w3 w3.heap.size s l vL 0 rs0 W :=
  ⟨h.blk, h.tk, hl, Nat.zero_le _, World.ownsRow_nil _ _ _ _, fun _ hi => absurd hi (Nat.not_lt_zero _), fun _ hi => absurd hi (Nat.not_lt_zero _), fun _ _ hi => absurd hi (Nat.not_lt_zero _), fun _ _ hi => absurd hi (Nat.not_lt_zero _), h.bl, Nat.le_refl _, Nat.zero_le _, fun _ hi => absurd hi (Nat.not_lt_zero _)⟩
theorem PsI.begin (w3 : World) (s : ByteArray) : PsI w3 s [] (.slice none 0 0) (w3.alloc (.cells #[.string s, .slice none 0 0, .int .i64 0, .slice none 0 0, .int .i64 0, .int .i64 0] 59)) :=
  ⟨Whole.made w3 _ _, World.ownsRow_nil _ _ _ _, below_alloc w3 _⟩
theorem PsI.drew {w3 W : World} {s : ByteArray} {l : List Tok} {vL : Value} (h : PsI w3 s l vL W) (n : Nat) : PsI w3 s l vL (W.drewN n) :=
  ⟨h.blk.grow (below_drewN (Below.refl _ _) n), row_fr h.tk (Fr.of_below (fun _ => False) (below_drewN (Below.refl _ _) n)) (fun _ _ h => h), below_drewN h.bl n⟩
theorem PsI.next {w3 W W' : World} {s : ByteArray} {l : List Tok} {vL v' : Value} {t : Tok} (h : PsI w3 s l vL W) (hown : W'.ownsRow w3.heap.size 61 3 v' (l.length + 1) (tokCells (l ++ [t]))) (hg : W.grownBy W' vL.ownBlock) : PsI w3 s (l ++ [t]) v' (W'.setCell ⟨w3.heap.size, 1, none⟩ v') := by
  have hvg : vL.ownBlock ≠ some w3.heap.size := whole_apart h.tk h.blk (by decide)
  have hw : Whole W' w3.heap.size 59 #[.string s, vL, .int .i64 0, .slice none 0 0, .int .i64 0, .int .i64 0] := whole_kept h.blk hg fun b e hb => hvg (by rw [e, hb])
  have hv2 : v'.ownBlock ≠ some w3.heap.size := whole_apart hown hw (by decide)
  have hg2 := set_grown W' ⟨w3.heap.size, 1, none⟩ v'
  refine ⟨hw.put 1 v', ?_, (h.bl.grown hg h.bl.size fun k e => (h.tk.lt k e).1).setCell (Nat.le_refl _) v'⟩
  rw [List.length_append, List.length_singleton]
  exact row_kept hown hg2 fun b e => by cases e; exact hv2
theorem nbl_take {l : List Tok} {i : Nat} (hi : i < l.length) : nbl (l.take (i + 1)) = if l[i].1 = 1 then nbl (l.take i) else nbl (l.take i) ++ [l[i]] := by
  rw [List.take_succ_eq_append_getElem hi]
  unfold nbl
  rw [List.filter_append]
  by_cases h : l[i].1 = 1
  · rw [if_pos h]; simp [h]
  · rw [if_neg h]; simp [h]
theorem three_put {W : World} {g gT o1 o2 o3 q : Nat} {v1 v2 v3 : Value} (h : W.cell? ⟨gT, o1, none⟩ = some v1 ∧ W.cell? ⟨gT, o2, none⟩ = some v2 ∧ W.cell? ⟨gT, o3, none⟩ = some v3) (hne : g ≠ gT) (u : Value) :
    (W.setCell ⟨g, q, none⟩ u).cell? ⟨gT, o1, none⟩ = some v1 ∧ (W.setCell ⟨g, q, none⟩ u).cell? ⟨gT, o2, none⟩ = some v2 ∧ (W.setCell ⟨g, q, none⟩ u).cell? ⟨gT, o3, none⟩ = some v3 :=
  ⟨cell_put h.1 (fun e => by injection e with e2; exact hne e2) u, cell_put h.2.1 (fun e => by injection e with e2; exact hne e2) u, cell_put h.2.2 (fun e => by injection e with e2; exact hne e2) u⟩
theorem three_below {B : Nat} {W W' : World} {gT o1 o2 o3 : Nat} {v1 v2 v3 : Value} (h : W.cell? ⟨gT, o1, none⟩ = some v1 ∧ W.cell? ⟨gT, o2, none⟩ = some v2 ∧ W.cell? ⟨gT, o3, none⟩ = some v3) (hb : Below B W W') (hB : gT < B) :
    W'.cell? ⟨gT, o1, none⟩ = some v1 ∧ W'.cell? ⟨gT, o2, none⟩ = some v2 ∧ W'.cell? ⟨gT, o3, none⟩ = some v3 :=
  ⟨(hb.cell (p := ⟨gT, o1, none⟩) hB).trans h.1, (hb.cell (p := ⟨gT, o2, none⟩) hB).trans h.2.1, (hb.cell (p := ⟨gT, o3, none⟩) hB).trans h.2.2⟩
theorem three_grown {W W' : World} {gT o1 o2 o3 : Nat} {v1 v2 v3 : Value} {row : Option Nat} (h : W.cell? ⟨gT, o1, none⟩ = some v1 ∧ W.cell? ⟨gT, o2, none⟩ = some v2 ∧ W.cell? ⟨gT, o3, none⟩ = some v3) (hg : W.grownBy W' row) (hr : row ≠ some gT) :
    W'.cell? ⟨gT, o1, none⟩ = some v1 ∧ W'.cell? ⟨gT, o2, none⟩ = some v2 ∧ W'.cell? ⟨gT, o3, none⟩ = some v3 := ⟨cell_grown h.1 hg hr, cell_grown h.2.1 hg hr, cell_grown h.2.2 hg hr⟩
set_option maxHeartbeats 4000000 in
set_option maxRecDepth 1000000 in
theorem rjparse_any (s : ByteArray) (W : World) (hs : s.size ≤ maxLen) : Calls Tryd.prog 8 #[.string s] W (JParsePost s W) := by
  have HTK := hq (rtokens4_any s (W.alloc (.cells #[.string ⟨#[]⟩, .slice none 0 0] 25)) hs)
  unfold TokPost at HTK
  have HB1 := hq (below_alloc W (.cells #[.string ⟨#[]⟩, .slice none 0 0] 25))
  have HW1 := hq (Whole.made W 25 #[.string ⟨#[]⟩, .slice none 0 0])
  have HBAD := hq (fun (W' : World) (wh : Nat) (er : Int) => @jparse_bad s W W' wh er)
  have HOK := hq (fun (W' : World) (ns : List JN) (nv : List NV) (vN : Value) => @jparse_ok s W W' ns nv vN)
  have HMEM := hq (fun x hx => (@tokensM_mem s x hx))
  have HSZ := hq (@tok_size s)
  have HTL := hq (@tokens_l s)
  have HLN := hq (tokensM_len s).1
  have HPM : Hq (jparseM s = if (tokensM s).2.2 ≠ 0 then .inl (tokensM s).2 else match valueM s.size (keyTx s) 32 (nbl (tokensM s).1) (0, 0) [] with
    | .inl e => .inl e
    | .inr (l, ns) => if l = [] then .inr ns else .inl (((l.head?).map fun t => t.2.1).getD 0, 2)) := hq rfl
  generalize jparseM s = PM at *
  generalize JParsePost s W = PP at *
  generalize tokensM s = TM at *
  obtain ⟨toks, ta, te⟩ := TM
  simp only at HTK HMEM HSZ HPM HTL HLN
  by_cases hte : te = 0
  · subst hte
    have HSZ2 := HSZ.o rfl
    have HTL2 := hq (HTL.o rfl)
    clear HSZ HTL
    rw [if_neg (by simp)] at HPM
    go_enter Tryd.func8, Tryd.ntmps8
    go_wp2_with fail
    refine HTK.o.mono ?_
    rintro e W3 ⟨v, rfl, hrow, hb3⟩
    have HB3 := hq (below_trans HB1.o hb3)
    have HD3 := hq (HW1.o.grow hb3)
    have HWL : W.heap.size < W3.heap.size := HD3.o.lt
    have HROW : Hq (∀ i (hi : i < toks.length), ∃ gT c, v = .slice (some ⟨gT, 0, none⟩) toks.length c ∧ gT < W3.heap.size ∧ W3.cell? ⟨gT, i * 3, none⟩ = some (.int .i64 (toks[i].1 : Int)) ∧ W3.cell? ⟨gT, i * 3 + 1, none⟩ = some (.int .i64 (toks[i].2.1 : Int)) ∧ W3.cell? ⟨gT, i * 3 + 2, none⟩ = some (.int .i64 (toks[i].2.2 : Int))) := hq (fun i hi => by
      obtain ⟨gT, c, hv, _, _, _, _, _, hcell⟩ := toks_cell hrow (by omega)
      obtain ⟨h1, h2, h3⟩ := hcell i toks[i] (List.getElem?_eq_getElem hi)
      exact ⟨gT, c, hv, cell_blk' h1, h1, h2, h3⟩)
    obtain ⟨va, vc, rfl⟩ := row_shape hrow
    have hln := HLN.o
    have HPS := hq (PsI.begin W3 s)
    clear hrow hb3 HTK HW1 HB1 HLN
    go_wp2_with fail
    go_upto_region 5 with fail
    generalize W3.alloc (.cells #[.string s, .slice none 0 0, .int .i64 0, .slice none 0 0, .int .i64 0, .int .i64 0] 59) = W4 at *
    go_wp2_with fail
    go_loopg [9] toks.length (fun gk u wr => ∃ i : Nat, i + gk ≤ toks.length ∧ toks.length ≤ i + gk ∧ u = .int .i64 (i : Int) ∧ ∃ vL, Hq (PsI W3 s (nbl (toks.take i)) vL wr))
    case atStart => exact ⟨0, by omega, by omega, rfl, _, HPS⟩
    case round =>
      obtain ⟨i, hi1, hi2, rfl, vL, hps⟩ := hrel
      clear HPS
      by_cases hil : i < toks.length
      · have hiz : (i : Int) < (toks.length : Int) := by omega
        obtain ⟨gT, c, hvv, hgT, t0, t1, t2⟩ := HROW.o i hil
        cases hvv
        have t0r := (hps.o.bl.cell (p := ⟨gT, i * 3, none⟩) hgT).trans t0
        have t1r := (hps.o.bl.cell (p := ⟨gT, i * 3 + 1, none⟩) hgT).trans t1
        have t2r := (hps.o.bl.cell (p := ⟨gT, i * 3 + 2, none⟩) hgT).trans t2
        have HNB := hq (nbl_take hil)
        have HLE : Hq ((nbl (toks.take i)).length ≤ i) := hq (by
          have h1 := List.length_filter_le (fun t : Tok => t.1 != 1) (toks.take i)
          rw [List.length_take] at h1
          unfold nbl
          omega)
        generalize toks[i] = t at *
        obtain ⟨kd, xa, xb⟩ := t
        simp only at t0r t1r t2r HNB
        clear t0 t1 t2 HOK HBAD HMEM HPM HTL2 HB3 HD3
        by_cases hk : kd = 1
        · have hkz : ((kd : Int) != 1) = false := by rw [bne_eq_false_iff_eq]; omega
          have HN2 : Hq (nbl (toks.take (i + 1)) = nbl (toks.take i)) := hq (by rw [HNB.o, if_pos hk])
          clear HROW HNB hk
          go_wp2_with fail
          go_roundg (gk - 1)
          case measure => omega
          case rel => exact ⟨i + 1, by omega, by omega, int_eq (by omega), vL, hq (HN2.o ▸ hps.o)⟩
        · have hkz : ((kd : Int) != 1) = true := by rw [bne_iff_ne]; omega
          have HN2 : Hq (nbl (toks.take (i + 1)) = nbl (toks.take i) ++ [(kd, xa, xb)]) := hq (by rw [HNB.o, if_neg hk])
          have hlen := HLE.o
          generalize nbl (toks.take i) = l at *
          have hbd := (below_alloc wr (.cells #[.int .i64 (kd : Int), .int .i64 (xa : Int), .int .i64 (xb : Int)] 61)).drew
          have HNR := hq (row_fr hps.o.tk (Fr.of_below (fun _ => False) hbd) (fun _ _ h => h))
          have HBK := hq (hps.o.blk.grow hbd)
          obtain ⟨la, lc, hvl⟩ := row_shape hps.o.tk
          have HVG : Hq (vL.ownBlock ≠ some W3.heap.size) := hq (whole_apart hps.o.tk hps.o.blk (by decide))
          have c1 : wr.cell? ⟨W3.heap.size, 1, none⟩ = some vL := hps.o.blk.at_ 1
          have cf := hps.o.blk.free
          have c1a : ((wr.alloc (.cells #[.int .i64 (kd : Int), .int .i64 (xa : Int), .int .i64 (xb : Int)] 61)).drew).cell? ⟨W3.heap.size, 1, none⟩ = some vL := HBK.o.at_ 1
          have hcb : W3.heap.size < wr.heap.size := hps.o.blk.lt
          have HPD := hq ((PsI.mk HBK.o HNR.o (hps.o.bl.trans (hbd.mono (Nat.le_of_lt hcb)))) : PsI W3 s l vL _)
          rw [hvl] at HNR HVG c1 c1a HPD
          have HGT : Hq (W3.heap.size ≠ gT) := hq (by omega)
          have HT3 := hq (And.intro t0r (And.intro t1r t2r))
          have HT4 := hq (three_below HT3.o hbd (by omega))
          obtain ⟨i1, hi1', hy0, hy1, hy2⟩ := info_parts infoTok
          clear HNB hk hbd hps HROW HLE
          go_upto_region 9 with fail
          rw [show (Op.load 54 (.tmp 40)) = opQ (Op.load 54 (.tmp 40)) from rfl]
          have hld : opQ (Op.load 54 (.tmp 40)) = Op.load 54 (.tmp 40) := rfl
          go_region_held3 (fun W => W.cell? ⟨gT, i * 3, none⟩ = some (.int .i64 (kd : Int)) ∧ W.cell? ⟨gT, i * 3 + 1, none⟩ = some (.int .i64 (xa : Int)) ∧ W.cell? ⟨gT, i * 3 + 2, none⟩ = some (.int .i64 (xb : Int)))
            (first | exact ⟨t0r, t1r, t2r⟩ | exact HT4.o | exact hT6 | exact three_put hT6 HGT.o _)
            ((refine step_at rfl (.tmp 41) (.tmp 46) 54 rfl W3.heap.size 61 i1 (.agg #[.int .i64 0, .int .i64 0, .int .i64 0]) 3 24 Tryd.underlying54 hi1' hy0 hy1 hy2 rfl (by decide) (.slice la l.length lc) l.length (tokCells l) (by simp [Act.eval]) HNR.o ⟨wr.heap.size, 0, none⟩ 1 1 [.int .i64 (kd : Int), .int .i64 (xa : Int), .int .i64 (xb : Int)] (by simp [Act.eval]) rfl (cells_of_new wr [.int .i64 (kd : Int), .int .i64 (xa : Int), .int .i64 (xb : Int)] _) (by simp [Value.oneCell']) (by unfold maxLen; omega) (by omega) (by show W3.heap.size ≤ (wr.alloc _).heap.size; rw [World.size_alloc]; omega) ?_; intro v' W6 hown6 hgrow6 hat6; obtain ⟨g6, c6, rfl⟩ := row_shape1 hown6; have HWK := hq (whole_kept HBK.o hgrow6 (fun b e hb => HVG.o (by rw [e, hb]))); have f2 := HWK.o.at_ 1; have ff := HWK.o.free; have hT6 := three_grown HT4.o hgrow6 (fun e => by have := (HNR.o.lt gT e).1; omega)))
          all_goals
            have HNX := hq (HPD.o.next (t := (kd, xa, xb)) (by rw [tokCells_snoc]; exact hown6) hgrow6)
            clear hown6 hgrow6 hat6 HWK f2 ff hT6 HPD HNR HBK HVG HGT HT3 HT4 t0r t1r t2r c1 c1a cf
            go_wp2_with fail
            go_roundg (gk - 1)
            case measure => omega
            case rel => exact ⟨i + 1, by omega, by omega, int_eq (by omega), _, hq (HN2.o ▸ HNX.o)⟩
      · have hiz : ¬ (i : Int) < (toks.length : Int) := by omega
        have HL : Hq (toks.take i = toks) := hq (List.take_of_length_le (by omega))
        have HLL : Hq (∀ t ∈ nbl toks, t.2.1 ≤ t.2.2 ∧ t.2.2 ≤ s.size) := hq (fun t ht => by
          have hm : t ∈ toks := (List.mem_filter.1 ht).1
          exact ⟨Nat.le_of_lt (HMEM.o t hm).1, (HMEM.o t hm).2.1⟩)
        have HPD := hq ((HL.o ▸ hps.o).done HLL.o)
        have HC := hq (pvalue_any HSZ2 (fun t ht h6 => HTL2.o.sg t ht (by omega) (by omega)) 32 1 rfl 0 rs0 wr 0 0 HPD.o)
        unfold PValPost at HC
        rw [List.drop_zero] at HC
        have hns : rs0.ns = [] := rfl
        rw [hns] at HC
        clear hps HL HLL HMEM HTL2 HROW hns HPD
        cases hv : valueM s.size (keyTx s) 32 (nbl toks) (0, 0) [] with
        | inl e =>
          obtain ⟨wh, er⟩ := e
          rw [hv] at HC HPM
          simp only at HC HPM
          unfold PBad at HC
          have HBD := hq (fun W' => HBAD.o W' wh er HPM.o)
          clear hv HBAD HOK HPM
          go_wp2_with fail
          refine HC.o.mono ?_
          rintro e W4 ⟨rfl, k4, r4, hR4, hF4, hwh, her⟩
          have k3 : W4.cell? ⟨W3.heap.size, 4, none⟩ = some (.int .i64 r4.wh) := hR4.blk.at_ 4
          have k5 : W4.cell? ⟨W3.heap.size, 5, none⟩ = some (.int .i64 r4.er) := hR4.blk.at_ 5
          rw [hwh] at k3
          rw [her] at k5
          have hD4 : ∀ n, Whole (W4.drewN n) W.heap.size 25 #[.string ⟨#[]⟩, .slice none 0 0] := fun n => HD3.o.kept (below_drewN hR4.bl n) HWL
          have HV := hq (fun n => HBD.o _ (below_set2 (below_drewN (below_trans HB3.o hR4.bl) n) (Nat.le_refl _) (.string ⟨#[]⟩) (.slice none 0 0)))
          have y0 : W4.cell? ⟨W.heap.size, 0, none⟩ = some (.string ⟨#[]⟩) := (hD4 0).at_ 0
          have y1 : W4.cell? ⟨W.heap.size, 1, none⟩ = some (.slice none 0 0) := (hD4 0).at_ 1
          have yf : ∀ i, W4.frozen? ⟨W.heap.size, i, none⟩ = false := (hD4 0).free
          have HZ := hq (fun n => And.intro ((whole_set2 (hD4 n) (.string ⟨#[]⟩) (.slice none 0 0)).at_ 0) ((whole_set2 (hD4 n) (.string ⟨#[]⟩) (.slice none 0 0)).at_ 1))
          unfold set2 at HV HZ
          clear hR4 hF4 hwh her hD4 HC HBD
          go_wp2_with fail
          go_big_quiet (fail)
          go_wp2_with fail
          go_region
          all_goals
            go_wp2_with fail
            refine bodyPost_ret (v := .tuple #[.agg #[.string ⟨#[]⟩, .slice none 0 0], .int .i64 (wh : Int), .int .i64 er]) ?_ rfl (HV.o _)
            obtain ⟨z0, z1⟩ := HZ.o (nq + 1)
            simp [results, Tryd.results8, go_sem, z0, z1]
        | inr q =>
          obtain ⟨l, ns⟩ := q
          rw [hv] at HC HPM
          simp only at HC HPM
          clear hv
          go_wp2_with fail
          refine HC.o.mono ?_
          rintro e W4 ⟨rfl, k', r4, hR4, hF4, hl4, hns4⟩
          obtain ⟨na4, nc4, nx4, ny4, eL4, eN4, k0, k1, k2, k3, k4, k5, kf⟩ := hR4.cells
          have htm4 := hR4.tm
          have hn44 := hR4.n4
          by_cases hk' : k' < (nbl toks).length
          · have hne : l ≠ [] := fun e => by
              have := congrArg List.length hl4
              rw [e, List.length_drop, List.length_nil] at this
              omega
            have hlt : (k' : Int) < ((nbl toks).length : Int) := by omega
            have HPM2 : Hq (PM = .inl (hereAt s (nbl toks) k', 2)) := hq (by
              rw [HPM.o, if_neg hne, ← hl4, List.drop_eq_getElem_cons hk']
              unfold hereAt
              rw [List.getElem?_eq_getElem hk']
              rfl)
            have HWR := hq (fun n => pwrong_any (hR4.grow (below_drewN (Below.refl _ W4) n)) 2)
            have HBD := hq (fun W' => HBAD.o W' (hereAt s (nbl toks) k') 2 HPM2.o)
            have HBW := hq (fun n => below_drewN (Below.refl W4.heap.size W4) n)
            clear hR4 hF4 hl4 hns4 hne HPM HPM2 HBAD HOK hk'
            generalize hereAt s (nbl toks) k' = wh at *
            go_wp2_with fail
            go_big_quiet (fail)
            go_wp2_with fail
            refine (HWR.o _).mono ?_
            rintro e W5 ⟨rfl, hR5, hF5⟩
            have k3 : W5.cell? ⟨W3.heap.size, 4, none⟩ = some (.int .i64 (wh : Int)) := hR5.blk.at_ 4
            have k5 : W5.cell? ⟨W3.heap.size, 5, none⟩ = some (.int .i64 2) := hR5.blk.at_ 5
            have hD4 : Whole W5 W.heap.size 25 #[.string ⟨#[]⟩, .slice none 0 0] := HD3.o.kept hR5.bl HWL
            have HD5 := hq (show Whole (set2 W5 W.heap.size (.string ⟨#[]⟩) (.slice none 0 0)).drew W.heap.size 25 #[.string ⟨#[]⟩, .slice none 0 0] from whole_set2 hD4 (.string ⟨#[]⟩) (.slice none 0 0))
            have HV := hq (HBD.o _ (below_set2 (below_trans HB3.o hR5.bl) (Nat.le_refl _) (.string ⟨#[]⟩) (.slice none 0 0)).drew)
            have y0 := hD4.at_ 0
            have y1 := hD4.at_ 1
            have yf := hD4.free
            have HZ := hq (And.intro (HD5.o.at_ 0) (HD5.o.at_ 1))
            unfold set2 at HV HZ
            clear hR5 hF5 hD4 HBD HD5 HWR HBW k0 k1 k2 k4
            go_wp2_with fail
            go_region
            all_goals
              go_wp2_with fail
              refine bodyPost_ret (v := .tuple #[.agg #[.string ⟨#[]⟩, .slice none 0 0], .int .i64 (wh : Int), .int .i64 2]) ?_ rfl HV.o
              obtain ⟨z0, z1⟩ := HZ.o
              simp [results, Tryd.results8, go_sem] at z0 z1 ⊢
              simp [z0, z1]
          · have he : l = [] := by rw [← hl4]; exact List.drop_eq_nil_of_le (by omega)
            have hlt : ¬ (k' : Int) < ((nbl toks).length : Int) := by omega
            have hltb : decide ((k' : Int) < ((nbl toks).length : Int)) = false := decide_eq_false hlt
            have HPM2 : Hq (PM = .inr ns) := hq (by rw [HPM.o, if_pos he])
            have hDn : ∀ n, Whole (W4.drewN n) W.heap.size 25 #[.string ⟨#[]⟩, .slice none 0 0] := fun n => HD3.o.kept (below_drewN hR4.bl n) HWL
            have HDOC : Hq (∀ n, DocIn W.heap.size r4.nv (.slice nx4 r4.nv.length ny4) (set2 (W4.drewN n) W.heap.size (.string s) (.slice nx4 r4.nv.length ny4))) := hq (fun n => by
              have h1 := ((hR4.grow (below_drewN (Below.refl _ W4) n)).doc (Nat.le_refl _)).far (b := W.heap.size) HWL (.string s) (.slice nx4 r4.nv.length ny4)
              rw [eN4] at h1
              have hlw : W.heap.size ≤ W3.heap.size := Nat.le_of_lt HWL
              exact ⟨row_base' h1.nd hlw, fun i hi => row_base' (h1.kr i hi) hlw, fun i hi => row_base' (h1.pr i hi) hlw, h1.ak, h1.ap, h1.n4, h1.kl⟩)
            have HV := hq (fun n => HOK.o _ ns r4.nv _ HPM2.o (HDOC.o n) hns4 (below_set2 (below_drewN (below_trans HB3.o hR4.bl) n) (Nat.le_refl _) _ _))
            have HZ := hq (fun n => And.intro ((whole_set2 (hDn n) (.string s) (.slice nx4 r4.nv.length ny4)).at_ 0) ((whole_set2 (hDn n) (.string s) (.slice nx4 r4.nv.length ny4)).at_ 1))
            have y0 : W4.cell? ⟨W.heap.size, 0, none⟩ = some (.string ⟨#[]⟩) := (hDn 0).at_ 0
            have y1 : W4.cell? ⟨W.heap.size, 1, none⟩ = some (.slice none 0 0) := (hDn 0).at_ 1
            have yf : ∀ i, W4.frozen? ⟨W.heap.size, i, none⟩ = false := (hDn 0).free
            unfold set2 at HV HZ
            clear hR4 hF4 hl4 hns4 he HPM HPM2 HBAD HOK hk' HDOC hDn eL4 eN4
            generalize r4.nv.length = n6 at *
            go_wp2_with fail
            go_big_quiet (fail)
            go_wp2_with fail
            refine bodyPost_ret (v := .tuple #[.agg #[.string s, .slice nx4 n6 ny4], .int .i64 (s.size : Int), .int .i64 0]) ?_ rfl (HV.o _)
            obtain ⟨z0, z1⟩ := HZ.o nq
            simp [results, Tryd.results8, go_sem, z0, z1]
  · have hteb : (te != 0) = true := bne_iff_ne.2 hte
    have HPM2 : Hq (PM = .inl (ta, te)) := hq (by rw [HPM.o, if_pos hte])
    have HBD := hq (fun W' => HBAD.o W' ta te HPM2.o)
    clear HOK HPM HMEM HSZ HBAD HTL HLN
    go_enter Tryd.func8, Tryd.ntmps8
    go_wp2_with fail
    refine HTK.o.mono ?_
    rintro e W3 ⟨v, rfl, hrow, hb3⟩
    obtain ⟨va, vc, rfl⟩ := row_shape hrow
    have hD3 := HW1.o.grow hb3
    have hD4 := whole_set2 hD3 (.string ⟨#[]⟩) (.slice none 0 0)
    have HV := hq (HBD.o _ (below_set2 (below_trans HB1.o hb3) (Nat.le_refl _) (.string ⟨#[]⟩) (.slice none 0 0)))
    have y0 := hD3.at_ 0
    have y1 := hD3.at_ 1
    have yf := hD3.free
    have HZ := hq (And.intro (hD4.at_ 0) (hD4.at_ 1))
    unfold set2 at HV HZ
    clear hD3 hD4 hrow hb3 HTK HBD HW1 HB1 hte
    go_wp2_with fail
    refine bodyPost_ret (v := .tuple #[.agg #[.string ⟨#[]⟩, .slice none 0 0], .int .i64 (ta : Int), .int .i64 te]) ?_ rfl HV.o
    obtain ⟨z0, z1⟩ := HZ.o
    simp [results, Tryd.results8, go_sem, z0, z1]
end Go.Proofs.YtmomildkopainaaDoor
