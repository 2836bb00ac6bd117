/-
  WALKS: the document's parser: kids; value, at every level.
-/
import Derived.Test.YtmomildkopainaaDoorJpD
namespace Go.Proofs.YtmomildkopainaaDoor
open Go.RowKit

theorem Pd.notown {w0 W : World} {g : Nat} {s : ByteArray} {L : List Tok} {vL : Value} {k : Nat} {r : RS} (h : Pd w0 g s L vL k r W) {B n size : Nat} {v : Value} {xs : List Value} (hr : W.ownsRow B 9 size v n xs) : ∀ q, v.ownBlock = some q → ¬ r.own g q := fun q hq ho => by
  rcases ho with rfl | ho | ⟨i, hi, ho | ho⟩
  · exact whole_apart hr h.blk (by decide) hq
  · exact own_apart hr h.nd (by decide) q hq ho
  · exact own_apart hr (h.kr i hi) (by decide) q hq ho
  · exact own_apart hr (h.pr i hi) (by decide) q hq ho
theorem row_fr {o o' : Nat → Prop} {W W' : World} {B e n size : Nat} {v : Value} {xs : List Value} (h : W.ownsRow B e size v n xs) (f : Fr o o' W W') (hno : ∀ q, v.ownBlock = some q → ¬ o q) : W'.ownsRow B e size v n xs := by
  refine ⟨h.1, ?_⟩
  rcases h.2 with h1 | ⟨g, cap, cur, h1, h2, h3, h4⟩
  · exact .inl h1
  · have hlt : g < W.heap.size := (h.lt g (by rw [h1]; rfl)).2
    exact .inr ⟨g, cap, cur, h1, h2, (f.block g hlt (hno g (by rw [h1]; rfl))).trans h3, h4⟩
theorem Fr.newrow {o o' : Nat → Prop} {W W' W'' : World} (h : Fr o o' W W') {row : Option Nat} (hg : W'.grownBy W'' row) (hr : ∀ q, row = some q → W.heap.size ≤ q) : Fr o o' W W'' :=
  ⟨hg.os.trans h.os, hg.tape.trans h.tape, hg.output.trans h.output, Nat.le_trans h.size hg.size, fun k hk hn => (hg.block k (Nat.lt_of_lt_of_le hk h.size) fun e => by have := hr k e.symm; omega).trans (h.block k hk hn), h.own⟩
theorem Pd.farRow {w0 W W' : World} {g : Nat} {s : ByteArray} {L : List Tok} {vL : Value} {k : Nat} {r : RS} (h : Pd w0 g s L vL k r W) {row : Option Nat} (hg : W.grownBy W' row) (hr : ∀ q, row = some q → ¬ r.own g q ∧ vL.ownBlock ≠ some q ∧ w0.heap.size ≤ q) : Pd w0 g s L vL k r W' := by
  refine ⟨whole_kept h.blk hg fun b e e2 => (hr b e).1 (.inl e2), row_kept h.tk hg fun b e => (hr b e).2.1, h.tl, h.tm, ?_, ?_, ?_, h.ak, h.ap, h.bl.grown hg h.bl.size fun q e => (hr q e).2.2, h.gl, h.n4, h.kl⟩
  · exact row_kept h.nd hg fun b e e2 => (hr b e).1 (.inr (.inl e2))
  · exact fun i hi => row_kept (h.kr i hi) hg fun b e e2 => (hr b e).1 (.inr (.inr ⟨i, hi, .inl e2⟩))
  · exact fun i hi => row_kept (h.pr i hi) hg fun b e e2 => (hr b e).1 (.inr (.inr ⟨i, hi, .inr e2⟩))
theorem infoStrP : (Tryd.prog.info? 9).map (fun i => (i.zero, i.size, i.bytes)) = some (some (.string ⟨#[]⟩), 1, 16) := by kernel_rfl
theorem row_set2 {W : World} {B e n size b : Nat} {v : Value} {xs : List Value} (h : W.ownsRow B e size v n xs) (hne : v.ownBlock ≠ some b) (u0 u1 : Value) : (set2 W b u0 u1).ownsRow B e size v n xs := by
  have h1 := row_kept h (set_grown W ⟨b, 0, none⟩ u0) fun q e e2 => by cases e; exact hne e2
  exact row_kept h1 (set_grown _ ⟨b, 1, none⟩ u1) fun q e e2 => by cases e; exact hne e2
theorem strC_snoc (had : List Bs) (x : Bs) : strC (had ++ [x]) = strC had ++ [.string (st x)] := by simp [strC]
/-- one kid, in one form -/
def KidAs (s : ByteArray) (L : List Tok) (d : Nat) (ob : Bool) (k4 : Nat) (r : RS) (had had' : List Bs) (k5 ka kb : Nat) : Prop :=
  kidM (valueM s.size (keyTx s) d) ob s.size (keyTx s) had (L.drop k4) r.ns = match valueM s.size (keyTx s) d (L.drop k5) (ka, kb) r.ns with
    | .inl e => .inl e
    | .inr (l', ns') => .inr (had', l', ns')
theorem kidAs_false (s : ByteArray) (L : List Tok) (d k4 : Nat) (r : RS) (had : List Bs) : KidAs s L d false k4 r had had k4 0 0 := by
  unfold KidAs kidM
  rw [if_neg (by simp)]
  cases valueM s.size (keyTx s) d (L.drop k4) (0, 0) r.ns <;> rfl
theorem kidAs_true {s : ByteArray} {L : List Tok} {d k4 : Nat} {r : RS} {had : List Bs} {t : Tok} {l : List Tok} {k5 : Nat} (h : keyM s.size (keyTx s) had (L.drop k4) = .inr (t, l)) (hl : L.drop k5 = l) : KidAs s L d true k4 r had (had ++ [keyTx s t.2.1 t.2.2]) k5 t.2.1 t.2.2 := by
  unfold KidAs
  rw [kidM_keyM, h, hl]
  simp only
  cases valueM s.size (keyTx s) d l (t.2.1, t.2.2) r.ns <;> rfl
/-- a node's cells, behind an append to its kids' or its pieces' row -/
theorem Pd.mid {w0 W W' : World} {g : Nat} {s : ByteArray} {L : List Tok} {vL : Value} {k0 : Nat} {r : RS} (h : Pd w0 g s L vL k0 r W) {k : Nat} (hk : k < r.nv.length) {gN cap : Nat} (hvN : r.vN = .slice (some ⟨gN, 0, none⟩) r.nv.length cap) {row : Option Nat} (hg : W.grownBy W' row) (hrow : row = r.nv[k].k.ownBlock ∨ row = r.nv[k].p.ownBlock) :
    (∀ j, j < 7 → W'.cell? ⟨gN, k * 7 + j, none⟩ = (nodeC r.nv[k])[j]?) ∧ ∀ o, W'.frozen? ⟨gN, o, none⟩ = false := by
  obtain ⟨gN', cap', hv', _, _, hf, hc⟩ := h.node hk
  rw [hvN] at hv'
  cases hv'
  have hb : W'.heap[gN]? = W.heap[gN]? := hg.block gN (h.nd.lt gN (by rw [hvN]; rfl)).2 fun e => by
    have hNo : r.vN.ownBlock = some gN := by rw [hvN]; rfl
    rcases hrow with e2 | e2
    · exact own_apart (h.kr k hk) h.nd (by decide) gN (e2.symm.trans e.symm) hNo
    · exact own_apart (h.pr k hk) h.nd (by decide) gN (e2.symm.trans e.symm) hNo
  exact ⟨fun j hj => (World.cell?_of_block (a := ⟨gN, k * 7 + j, none⟩) hb).trans (hc j hj), fun o => (World.frozen?_of_block (a := ⟨gN, o, none⟩) hb).trans (hf o)⟩
/-- a kid more -/
theorem Pd.kid {w0 W W' : World} {g : Nat} {s : ByteArray} {L : List Tok} {vL : Value} {k0 : Nat} {r : RS} (h : Pd w0 g s L vL k0 r W) {k : Nat} (hk : k < r.nv.length) {gN cap : Nat} (hvN : r.vN = .slice (some ⟨gN, 0, none⟩) r.nv.length cap) {kid : Nat} {v' : Value} (hlt : r.nv[k].n.kids.length < r.nv.length)
    (hown : W'.ownsRow w0.heap.size 3 1 v' (r.nv[k].n.kids.length + 1) (kidC r.nv[k].n.kids ++ [.int .i64 (kid : Int)])) (hg : W.grownBy W' r.nv[k].k.ownBlock) (hat : v'.ownBlock = r.nv[k].k.ownBlock ∨ v'.ownBlock = some W.heap.size) :
    Pd w0 g s L vL k0 (r.upd k (kidV r.nv[k] kid v')) (W'.setCell ⟨gN, k * 7 + 5, none⟩ v') ∧ Fr (r.own g) ((r.upd k (kidV r.nv[k] kid v')).own g) W (W'.setCell ⟨gN, k * 7 + 5, none⟩ v') :=
  h.upd hk hvN (by omega) (by simp [nodeC, kidV]) hg (.inr (.inl ⟨rfl, rfl, rfl⟩)) (by
    have e1 : (kidV r.nv[k] kid v').n.kids.length = r.nv[k].n.kids.length + 1 := by simp [kidV]
    have e2 : kidC (kidV r.nv[k] kid v').n.kids = kidC r.nv[k].n.kids ++ [.int .i64 (kid : Int)] := by simp [kidC, kidV]
    rw [e1, e2]; exact hown) (row_kept (h.pr k hk) hg fun b e => own_apart (h.kr k hk) (h.pr k hk) (by decide) b e) hat (.inl rfl) ⟨by simp [kidV]; omega, (h.kl k hk).2⟩
/-- a piece more -/
theorem Pd.piece {w0 W W' : World} {g : Nat} {s : ByteArray} {L : List Tok} {vL : Value} {k0 : Nat} {r : RS} (h : Pd w0 g s L vL k0 r W) {k : Nat} (hk : k < r.nv.length) {gN cap : Nat} (hvN : r.vN = .slice (some ⟨gN, 0, none⟩) r.nv.length cap) {a b : Nat} {v' : Value} (hlt : r.nv[k].n.pcs.length < r.nv.length)
    (hown : W'.ownsRow w0.heap.size 49 2 v' (r.nv[k].n.pcs.length + 1) (pcC r.nv[k].n.pcs ++ [.int .i64 (a : Int), .int .i64 (b : Int)])) (hg : W.grownBy W' r.nv[k].p.ownBlock) (hat : v'.ownBlock = r.nv[k].p.ownBlock ∨ v'.ownBlock = some W.heap.size) :
    Pd w0 g s L vL k0 (r.upd k (pcV r.nv[k] (a, b) v')) (W'.setCell ⟨gN, k * 7 + 6, none⟩ v') ∧ Fr (r.own g) ((r.upd k (pcV r.nv[k] (a, b) v')).own g) W (W'.setCell ⟨gN, k * 7 + 6, none⟩ v') :=
  h.upd hk hvN (by omega) (by simp [nodeC, pcV]) hg (.inr (.inr ⟨rfl, rfl, rfl⟩)) (row_kept (h.kr k hk) hg fun b e => own_apart (h.pr k hk) (h.kr k hk) (by decide) b e) (by
    have e1 : (pcV r.nv[k] (a, b) v').n.pcs.length = r.nv[k].n.pcs.length + 1 := by simp [pcV]
    have e2 : pcC (pcV r.nv[k] (a, b) v').n.pcs = pcC r.nv[k].n.pcs ++ [.int .i64 (a : Int), .int .i64 (b : Int)] := by simp [pcC, pcV]
    rw [e1, e2]; exact hown) (.inl rfl) hat ⟨(h.kl k hk).1, by simp [pcV]; omega⟩
theorem one_put {W : World} {g gN o1 q : Nat} {v1 : Value} (h : W.cell? ⟨g, o1, none⟩ = some v1) (h1 : gN ≠ g) (u : Value) : (W.setCell ⟨gN, q, none⟩ u).cell? ⟨g, o1, none⟩ = some v1 := cell_put h (fun e => by injection e with e2; exact h1 e2) u
set_option maxHeartbeats 4000000 in
set_option maxRecDepth 1000000 in
theorem pkids_step {w0 : World} {g : Nat} {s : ByteArray} {L : List Tok} {vL : Value} {d Lv : Nat} (hL : Lv ≤ 33) (hs : s.size ≤ 65536) (hcm : ∀ t ∈ L, t.1 = 6 → t.2.2 = t.2.1 + 1) (HV : PValOk w0 g s L vL d (Lv + 1)) : PKidsOk w0 g s L vL d Lv := by
  intro ob n k r W h hn hk htn
  have hW0 := h.bl.size
  have hL9 := h.tl9
  have hkL := h.tm
  unfold maxLen at hL9
  obtain ⟨q, hkq⟩ : ∃ q, k = q + 1 := ⟨k - 1, by omega⟩
  have hqL : q < L.length := by omega
  obtain ⟨gU, cU, eU, _, _, u2⟩ := h.tok hqL
  obtain ⟨_, cV, _, cM, eV, eN, _, d1, d2, d3, _, _, _⟩ := h.cells
  have eUV := eV.symm.trans eU
  cases eUV
  have hfr : L[q].2.2 = toN r.ns n := (htn L[q] (by rw [show k - 1 = q by omega]; exact List.getElem?_eq_getElem hqL)).symm
  have ec : IntKind.i64.wrap ((k : Int) - 1) = (q : Int) := by rw [IntWalk.i64_in _ (by omega)]; omega
  have hqz : (q : Int) < (L.length : Int) := by omega
  obtain ⟨PP, hPP⟩ : ∃ PP, PP = PKidsPost w0 g s L vL d ob n k r W := ⟨_, rfl⟩
  have HPP := hq hPP
  rw [← hPP]
  have HR := hq h
  have HFQ := hq hfr
  have HLM : Hq (listM (valueM s.size (keyTx s) d) ob s.size (keyTx s) n (L.drop k) r.ns = if ((L.drop k).head?).map (fun t => t.1) = some (jendM ob) then .inr ((L.drop k).tail, closeN r.ns n (((L.drop k).head?.map fun t => t.2.2).getD 0)) else loopM (valueM s.size (keyTx s) d) ob s.size (keyTx s) n ((L.drop k).length + 1) [] (toN r.ns n) (L.drop k) r.ns) := hq rfl
  have hen : 2 ≤ jendM ob ∧ jendM ob ≤ 5 := by cases ob <;> decide
  have HBN := hq (fun m => below_drewN (Below.refl W.heap.size W) m)
  clear h hPP hkq hfr htn eU eV eN
  generalize hb2 : L[q].2.2 = fr0 at *
  go_enter Tryd.func48, Tryd.ntmps48
  go_wp2_with fail
  go_big_quiet (fail)
  have HB0 := hq (HBN.o nq)
  generalize W.drewN nq = W1 at *
  have HR1 := hq (HR.o.grow HB0.o)
  have HF1 := hq (Fr.of_below (r.own g) HB0.o)
  have HCK := hq (fun k' r' W' (hr : Pd w0 g s L vL k' r' W') => pkind_any hr)
  clear HBN u2 d1 d2 d3 ec hqz hb2
  go_wp2_with fail
  refine (HCK.o _ _ _ HR1.o).mono ?_
  rintro e W2 ⟨rfl, hb⟩
  have HR2 := hq (HR1.o.grow hb)
  have HF2 := hq (HF1.o.trans (Fr.of_below _ hb))
  clear hb HR1 HF1 HB0
  by_cases hend : kindAt L k = jendM ob
  · have hez : ((kindAt L k : Int) == (jendM ob : Int)) = true := by rw [beq_iff_eq]; omega
    have hkl : k < L.length := by
      rcases Nat.lt_or_ge k L.length with h | h
      · exact h
      · unfold kindAt at hend; rw [List.getElem?_eq_none h] at hend; simp at hend; omega
    obtain ⟨_, _, _, _, _, _, _, _, c2, _, _, _, cf⟩ := HR2.o.cells
    have HST := hq (HR2.o.step (k1 := k + 1) (by omega))
    have HFS := hq (HF2.o.trans (HR2.o.stepF (.int .i64 ((k + 1 : Nat) : Int))))
    have e5 : ((k + 1 : Nat) : Int) = (k : Int) + 1 := by omega
    rw [e5] at HST HFS
    have e1 : kindAt L k = L[k].1 := by unfold kindAt; rw [List.getElem?_eq_getElem hkl]; rfl
    have HVV : Hq (PP (.returned (.bool true)) (W2.setCell ⟨g, 2, none⟩ (.int .i64 ((k : Int) + 1)))) := hq (by
      rw [HPP.o]
      unfold PKidsPost
      rw [HLM.o, List.drop_eq_getElem_cons hkl, if_pos (by rw [List.head?_cons, Option.map_some, ← e1, hend])]
      exact ⟨rfl, k + 1, r, L[k], HST.o, HFS.o, rfl, hn, by omega, by rw [Nat.add_sub_cancel]; exact List.getElem?_eq_getElem hkl, rfl⟩)
    clear HST HFS e5 e1 HPP HLM HV HCK HR HF2 HFQ hend HR2
    generalize kindAt L k = kk at *
    generalize jendM ob = en at *
    go_wp2_with fail
    first | exact HVV.o | (go_ret; exact HVV.o)
  · have hez : ((kindAt L k : Int) == (jendM ob : Int)) = false := by rw [beq_eq_false_iff_ne]; omega
    have HRR : Hq (listM (valueM s.size (keyTx s) d) ob s.size (keyTx s) n (L.drop k) r.ns = loopM (valueM s.size (keyTx s) d) ob s.size (keyTx s) n ((L.drop k).length + 1) [] fr0 (L.drop k) r.ns) := hq (by
      rw [HLM.o, if_neg, ← HFQ.o]
      rcases Nat.lt_or_ge k L.length with h | h
      · rw [List.drop_eq_getElem_cons h]
        have e1 : kindAt L k = L[k].1 := by unfold kindAt; rw [List.getElem?_eq_getElem h]; rfl
        rw [List.head?_cons, Option.map_some, ← e1]
        exact fun e => hend (Option.some.inj e)
      · rw [List.drop_eq_nil_of_le h]; simp)
    have HBAD : Hq (∀ wh er k' r' W', listM (valueM s.size (keyTx s) d) ob s.size (keyTx s) n (L.drop k) r.ns = .inl (wh, er) → Pd w0 g s L vL k' r' W' → Fr (r.own g) (r'.own g) W W' → r'.wh = (wh : Int) → r'.er = er → PP (.returned (.bool false)) W') := hq (fun wh er k' r' W' h1 h2 h3 h4 h5 => by
      rw [HPP.o]; unfold PKidsPost; rw [h1]; exact ⟨rfl, k', r', h2, h3, h4, h5⟩)
    have HGOOD : Hq (∀ l ns k' r' t W', listM (valueM s.size (keyTx s) d) ob s.size (keyTx s) n (L.drop k) r.ns = .inr (l, ns) → Pd w0 g s L vL k' r' W' → Fr (r.own g) (r'.own g) W W' → L.drop k' = l → n < r'.nv.length → 1 ≤ k' → L[k' - 1]? = some t → closeN r'.ns n t.2.2 = ns → PP (.returned (.bool true)) W') := hq (fun l ns k' r' t W' h1 h2 h3 h4 h5 h6 h7 h8 => by
      rw [HPP.o]; unfold PKidsPost; rw [h1]; exact ⟨rfl, k', r', t, h2, h3, h4, h5, h6, h7, h8⟩)
    generalize listM (valueM s.size (keyTx s) d) ob s.size (keyTx s) n (L.drop k) r.ns = R at *
    have hdl : (L.drop k).length + 1 = (L.length - k) + 1 := by rw [List.length_drop]
    rw [hdl] at HRR
    have HENK := hq hend
    clear HPP HLM HFQ hend hdl HR
    generalize kindAt L k = kk at *
    go_wp2_with fail
    go_loopg [9, 10] ((L.length - k) + 1) (fun gk hv frv wr => ∃ (k4 : Nat) (r4 : RS) (had : List Bs) (fr : Nat), frv = .int .i64 (fr : Int) ∧ n < r4.nv.length ∧ L.length - k4 < gk ∧ had.length ≤ r4.nv.length ∧ Hq (Pd w0 g s L vL k4 r4 wr) ∧ Hq (wr.ownsRow W.heap.size 9 1 hv had.length (strC had)) ∧ Hq (Fr (r.own g) (r4.own g) W wr) ∧ Hq (R = loopM (valueM s.size (keyTx s) d) ob s.size (keyTx s) n gk had fr (L.drop k4) r4.ns))
    case atStart => exact ⟨k, r, [], fr0, rfl, hn, by omega, Nat.zero_le _, HR2, hq (World.ownsRow_nil _ _ _ _), HF2, HRR⟩
    case round =>
      obtain ⟨k4, r4, had, fr, rfl, hn4, hlt, hhl, HR4, HH4, HF4, HR5⟩ := hrel
      have hkL4 := HR4.o.tm
      obtain ⟨f, rfl⟩ : ∃ f, gk = f + 1 := ⟨gk - 1, by omega⟩
      have hn4096 := HR4.o.n4
      have HKL4 := hq (HR4.o.kl n hn4)
      obtain ⟨ha, hc, rfl⟩ := row_shape HH4.o
      have hb6 := below_alloc wr (.cells #[.int .i64 0, .int .i64 0] 49)
      have HR6 := hq (HR4.o.grow hb6)
      have HF6 := hq (HF4.o.trans (Fr.of_below _ hb6))
      have HH6 := hq (row_fr HH4.o (Fr.of_below (fun _ => False) hb6) (fun _ _ h => h))
      have HX6 : Hq (Lo (r4.own g) (wr.alloc (.cells #[.int .i64 0, .int .i64 0] 49)) wr.heap.size 49 #[.int .i64 0, .int .i64 0]) := hq (Lo.new (fun k hk => (HR4.o.own_lt k hk).2) _ _)
      have hwr : W.heap.size ≤ wr.heap.size := HF4.o.size
      have hw0 : w0.heap.size ≤ W.heap.size := hW0
      clear hb6 HR4 HF4 HH4
      go_upto_region 6 with fail
      go_cut [11] from 42 to 134 (fun p wx => p = .pointer (some ⟨wr.heap.size, 0, none⟩) ∧ wr.alloc (.cells #[.int .i64 0, .int .i64 0] 49) = wx)
      case first =>
        go_wp2_with fail
        go_meet
        exact ⟨rfl, rfl⟩
      obtain ⟨rfl, hwc⟩ := hcut
      rw [hwc] at HR6 HF6 HH6 HX6
      clear hwc
      generalize wr.heap.size = bX at *
      apply_assumption
      apply wp_seq_k
      intro KX hKX
      go_cut [9] from 42 to 134 (fun hv wx => ∃ (had' : List Bs) (k5 ka kb : Nat), Hq (KidAs s L d ob k4 r4 had had' k5 ka kb) ∧ had'.length ≤ had.length + 1 ∧ Hq (Pd w0 g s L vL k5 r4 wx) ∧ Hq (wx.ownsRow W.heap.size 9 1 hv had'.length (strC had')) ∧ Hq (Fr (r.own g) (r4.own g) W wx) ∧ Hq (Lo (r4.own g) wx bX 49 #[.int .i64 (ka : Int), .int .i64 (kb : Int)]))
      case first =>
        cases ob with
        | false =>
          rw [show ((jendM false : Nat) : Int) = 5 from rfl]
          go_wp2_with fail
          go_meet
          exact ⟨had, k4, 0, 0, hq (kidAs_false s L d k4 r4 had), by omega, HR6, HH6, HF6, HX6⟩
        | true =>
          rw [show ((jendM true : Nat) : Int) = 3 from rfl]
          have HC := hq (pkey_any HR6.o HH6.o hs (by omega))
          unfold PKeyPost at HC
          cases hkm : keyM s.size (keyTx s) had (L.drop k4) with
          | inl e =>
            obtain ⟨wh, er⟩ := e
            rw [hkm] at HC
            have hR : R = .inl (wh, er) := HR5.o.trans (loopM_kid (by rw [kidM_keyM, hkm]))
            have HB2 := hq (fun k' r' W' => HBAD.o wh er k' r' W' hR)
            clear hkm hR HR5 HBAD HGOOD
            go_wp2_with fail
            refine HC.o.mono ?_
            rintro e W7 ⟨⟨tx, a, b, rfl⟩, ⟨k', hp⟩, hf⟩
            have HVV := hq (HB2.o k' _ _ (hp.grow (below_alloc W7 (.cells #[.int .i64 a, .int .i64 b] 49))) ((HF6.o.trans hf).trans (Fr.of_below _ (below_alloc W7 (.cells #[.int .i64 a, .int .i64 b] 49)))) rfl rfl)
            unfold keyV
            clear hp hf HC HB2
            go_wp2_with fail
            first | exact HVV.o | (go_ret; exact HVV.o)
          | inr p =>
            obtain ⟨t, l⟩ := p
            rw [hkm] at HC
            clear HR5 HBAD HGOOD
            go_wp2_with fail
            refine HC.o.mono ?_
            rintro e W7 ⟨rfl, ⟨k', hp, hdr⟩, hf⟩
            obtain ⟨kd, ta, tb⟩ := t
            dsimp only
            have HKA := hq (kidAs_true (d := d) (r := r4) hkm hdr)
            simp only at HKA
            generalize keyTx s ta tb = nm at *
            have hb8 := below_alloc W7 (.cells #[.int .i64 (ta : Int), .int .i64 (tb : Int)] 49)
            have HR8 := hq (hp.grow hb8)
            have HF8 := hq ((HF6.o.trans hf).trans (Fr.of_below _ hb8))
            have HH8 := hq (row_fr (row_fr HH6.o hf (HR6.o.notown HH6.o)) (Fr.of_below (fun _ => False) hb8) (fun _ _ h => h))
            have HX8 := hq ((HX6.o.step hf).below hb8)
            have HY8 := hq (Whole.made W7 49 #[.int .i64 (ta : Int), .int .i64 (tb : Int)])
            unfold keyV
            clear hkm hdr hb8 hp hf HC HR6 HF6 HH6 HX6
            go_upto_region 9 with fail
            generalize W7.heap.size = b13 at *
            generalize W7.alloc (.cells #[.int .i64 (ta : Int), .int .i64 (tb : Int)] 49) = W8 at *
            obtain ⟨i0, hi0, hz0, hz1, hz2⟩ := info_parts infoStrP
            have hrow := HH8.o
            have hww := Nat.le_trans hwr (Nat.le_of_lt HX8.o.at_.lt)
            go_wp2_with (at_builtin; refine wpList_append_own _ rfl _ _ 33 rfl W.heap.size 9 i0 (.string ⟨#[]⟩) 1 16 Tryd.underlying33 hi0 hz0 hz1 hz2 rfl (by decide) _ _ _ rfl (hrow.alloc _) ⟨W8.heap.size, 0, none⟩ 1 1 [.string (st nm)] rfl rfl (cells_of_new _ [.string (st nm)] _) (by simp [Value.oneCell']) (by unfold maxLen; omega) (by omega) (by rw [World.size_alloc]; omega) ?_)
            intro v' W9 hown9 hgrow9 _
            have hbo := below_alloc W8 (.cells #[.string (st nm)] 9)
            have hne13 : ∀ b, (Value.slice ha had.length hc).ownBlock = some b → b ≠ b13 := fun b e e2 => whole_apart HH8.o HY8.o (by decide) (by rw [e, e2])
            have hneX : ∀ b, (Value.slice ha had.length hc).ownBlock = some b → b ≠ bX := fun b e e2 => whole_apart HH8.o HX8.o.at_ (by decide) (by rw [e, e2])
            have hy9 := whole_kept (HY8.o.grow hbo) hgrow9 hne13
            have hx9 := whole_kept (HX8.o.at_.grow hbo) hgrow9 hneX
            have hr9 : Pd w0 g s L vL k' r4 W9 := (HR8.o.grow hbo).farRow hgrow9 (fun q e => ⟨HR8.o.notown HH8.o q e, fun e2 => own_apart HH8.o HR8.o.tk (by decide) q e e2, Nat.le_trans hw0 (HH8.o.lt q e).1⟩)
            have hf9 := (HF8.o.trans (Fr.of_below _ hbo)).newrow hgrow9 (fun q e => (HH8.o.lt q e).1)
            have hvX : vL.ownBlock ≠ some bX := whole_apart hr9.tk hx9 (by decide)
            have hvr : v'.ownBlock ≠ some bX := whole_apart hown9 hx9 (by decide)
            have HZ := hq (And.intro (hr9.far2 HX8.o.no hvX (Nat.le_trans hw0 hwr) (.int .i64 (ta : Int)) (.int .i64 (tb : Int))) (And.intro (row_set2 hown9 hvr (.int .i64 (ta : Int)) (.int .i64 (tb : Int))) (And.intro (hf9.new2 hwr (.int .i64 (ta : Int)) (.int .i64 (tb : Int))) (whole_set2 hx9 (.int .i64 (ta : Int)) (.int .i64 (tb : Int))))))
            have y0 := hy9.at_ 0
            have y1 := hy9.at_ 1
            have z0 := hx9.at_ 0
            have z1 := hx9.at_ 1
            have zf := hx9.free
            have HXN := hq HX8.o.no
            clear hbo hne13 hneX hy9 hx9 hr9 hf9 hvX hvr hgrow9 hown9 hrow HR8 HF8 HH8 HX8 HY8
            go_wp2_with fail
            go_meet
            refine ⟨had ++ [nm], k', ta, tb, HKA, by simp, hq HZ.o.1, hq ?_, hq HZ.o.2.2.1, hq ⟨HZ.o.2.2.2, HXN.o⟩⟩
            rw [List.length_append, List.length_singleton, strC_snoc]
            exact HZ.o.2.1
      case rest =>
        obtain ⟨had', k5, ka, kb, HKA, hhl2, HR7, HH7, HF7, HX7⟩ := hcut
        obtain ⟨ha2, hc2, rfl⟩ := row_shape HH7.o
        obtain ⟨_, cT, na, nc, eV2, eN2, _, _, _, c3, _, _, cf⟩ := HR7.o.cells
        have x0 := HX7.o.at_.at_ 0
        have x1 := HX7.o.at_.at_ 1
        have HC := hq (HV k5 r4 wc ka kb HR7.o)
        rw [show ((Lv + 1 : Nat) : Int) = (Lv : Int) + 1 by omega] at HC
        unfold PValPost at HC
        have HNO := hq (HR7.o.notown HH7.o)
        have HKI : Hq (kidM (valueM s.size (keyTx s) d) ob s.size (keyTx s) had (L.drop k4) r4.ns = match valueM s.size (keyTx s) d (L.drop k5) (ka, kb) r4.ns with
          | .inl e => .inl e
          | .inr (l', ns') => .inr (had', l', ns')) := hq HKA.o
        clear eV2 eN2 HKA HX7
        cases hvm : valueM s.size (keyTx s) d (L.drop k5) (ka, kb) r4.ns with
        | inl e =>
          obtain ⟨wh, er⟩ := e
          rw [hvm] at HC
          have hR : R = .inl (wh, er) := HR5.o.trans (loopM_kid (by rw [HKI.o, hvm]))
          have HB2 := hq (fun k' r' W' => HBAD.o wh er k' r' W' hR)
          clear hvm hR HR5 HBAD HGOOD HKI HNO
          go_wp2_with fail
          refine HC.o.mono ?_
          rintro e W8 ⟨rfl, k', r', h1, h2, h3, h4⟩
          have HVV := hq (HB2.o k' r' _ h1 (HF7.o.trans h2) h3 h4)
          clear h1 h2 h3 h4 HC HB2
          go_wp2_with fail
          first | exact HVV.o | (go_ret; exact HVV.o)
        | inr p =>
          obtain ⟨l1, ns1⟩ := p
          rw [hvm] at HC
          have hext := valueM_ext _ _ _ _ _ _ _ _ hvm
          have HKJ : Hq (kidM (valueM s.size (keyTx s) d) ob s.size (keyTx s) had (L.drop k4) r4.ns = .inr (had', l1, ns1)) := hq (by rw [HKI.o, hvm])
          clear HKI hvm
          go_upto_region 14 with fail
          go_cut [16] from 42 to 134 (fun ok wx => ok = .bool true ∧ ∃ k6 r6, Hq (Pd w0 g s L vL k6 r6 wx) ∧ Hq (Fr (r4.own g) (r6.own g) wc wx) ∧ Hq (L.drop k6 = l1) ∧ Hq (r6.ns = ns1))
          case first =>
            go_wp2_with fail
            refine HC.o.mono ?_
            rintro e W8 ⟨rfl, k6, r6, h1, h2, h3, h4⟩
            have HZ := hq (And.intro h1 (And.intro h2 (And.intro h3 h4)))
            clear h1 h2 h3 h4 HC
            go_wp2_with fail
            go_meet
            exact ⟨rfl, k6, r6, hq HZ.o.1, hq HZ.o.2.1, hq HZ.o.2.2.1, hq HZ.o.2.2.2⟩
          case rest =>
            obtain ⟨rfl, k6, r6, HR8, HF8, HD8, HN8⟩ := hcut
            have HH8 := hq (row_fr HH7.o HF8.o HNO.o)
            have HF9 := hq (HF7.o.trans HF8.o)
            clear HC c3 cf x0 x1 HF7 HH7 HR7 HNO HF8
            apply_assumption
            apply wp_seq_k
            intro KX2 hKX2
            go_cut [] from 42 to 134 (fun wx => wc = wx)
            case first =>
              go_wp2_with fail
              go_meet
              exact rfl
            obtain rfl := hcut
            apply_assumption
            apply wp_seq_k
            intro KX3 hKX3
            go_cut [] from 42 to 134 (fun wx => Hq (kindAt L k6 = 6 ∨ kindAt L k6 = jendM ob) ∧ Hq (Below wc.heap.size wc wx))
            case first =>
              have HC6 := hq (fun W' hr => HCK.o k6 r6 W' hr)
              by_cases h6 : kindAt L k6 = 6
              · have e6 : ((kindAt L k6 : Int) != 6) = false := by rw [bne_eq_false_iff_eq]; omega
                have H6 := hq h6
                clear h6 HBAD HGOOD HR5 HCK
                generalize hkk6 : kindAt L k6 = kk6 at *
                clear hkk6
                go_wp2_with fail
                refine (HC6.o _ HR8.o).mono ?_
                rintro e W9 ⟨rfl, hb⟩
                have HB := hq hb
                clear hb HC6
                go_wp2_with fail
                go_meet
                exact ⟨hq (.inl H6.o), HB⟩
              · have e6 : ((kindAt L k6 : Int) != 6) = true := by rw [bne_iff_ne]; omega
                by_cases h7 : kindAt L k6 = jendM ob
                · have e7 : ((kindAt L k6 : Int) != (jendM ob : Int)) = false := by rw [bne_eq_false_iff_eq]; omega
                  have H7 := hq h7
                  clear h6 h7 HBAD HGOOD HR5 HCK
                  generalize hkk6 : kindAt L k6 = kk6 at *
                  clear hkk6
                  generalize jendM ob = en at *
                  go_wp2_with fail
                  refine (HC6.o _ HR8.o).mono ?_
                  rintro e W9 ⟨rfl, hb⟩
                  have HB := hq hb
                  have HR9 := hq (HR8.o.grow hb)
                  clear hb
                  go_wp2_with fail
                  refine (HC6.o _ HR9.o).mono ?_
                  rintro e W10 ⟨rfl, hb⟩
                  have HB2 := hq (below_trans HB.o hb)
                  clear hb HB HC6 HR9
                  go_wp2_with fail
                  go_meet
                  exact ⟨hq (.inr H7.o), HB2⟩
                · have e7 : ((kindAt L k6 : Int) != (jendM ob : Int)) = true := by rw [bne_iff_ne]; omega
                  have hR : R = .inl (hereAt s L k6, 2) := HR5.o.trans (loopM_take HKJ.o (by
                    rw [← HD8.o]
                    rcases takeM_at s L k6 6 (jendM ob) (by omega) (by omega) with ⟨h, _⟩ | ⟨_, h⟩
                    · rcases h with h | h
                      · exact absurd h h6
                      · exact absurd h h7
                    · exact h))
                  have HB2 := hq (fun r' W' => HBAD.o (hereAt s L k6) 2 k6 r' W' hR)
                  have HCW := hq (fun W' hr => pwrong_any (W := W') (r := r6) (k := k6) (L := L) (vL := vL) (s := s) (g := g) (w0 := w0) hr 2)
                  clear h6 h7 hR HBAD HGOOD HR5 HCK
                  generalize hereAt s L k6 = hh at *
                  generalize hkk6 : kindAt L k6 = kk6 at *
                  clear hkk6
                  generalize jendM ob = en at *
                  go_wp2_with fail
                  refine (HC6.o _ HR8.o).mono ?_
                  rintro e W9 ⟨rfl, hb⟩
                  have HR9 := hq (HR8.o.grow hb)
                  have HF10 := hq (HF9.o.trans (Fr.of_below _ hb))
                  clear hb
                  go_wp2_with fail
                  refine (HC6.o _ HR9.o).mono ?_
                  rintro e W10 ⟨rfl, hb⟩
                  have HR10 := hq (HR9.o.grow hb)
                  have HF11 := hq (HF10.o.trans (Fr.of_below _ hb))
                  clear hb HC6 HR9 HF10
                  go_wp2_with fail
                  refine (HCW.o _ HR10.o).mono ?_
                  rintro e W11 ⟨rfl, hr, hf⟩
                  have HVV := hq (HB2.o _ _ hr (HF11.o.trans hf) rfl rfl)
                  clear hr hf HCW HB2 HR10 HF11
                  go_wp2_with fail
                  first | exact HVV.o | (go_ret; exact HVV.o)
            case rest =>
              obtain ⟨HEN, hb⟩ := hcut
              have HR9 := hq (HR8.o.grow hb.o)
              have HF10 := hq (HF9.o.trans (Fr.of_below _ hb.o))
              have HH9 := hq (row_fr HH8.o (Fr.of_below (fun _ => False) hb.o) (fun _ _ h => h))
              clear hb HR8 HF9 HH8
              have hln : r4.nv.length < r6.nv.length := by
                have h1 := hext.ln
                rwa [← HN8.o, RS.ns_len, RS.ns_len] at h1
              have hn6 : n < r6.nv.length := by omega
              have hnx : r6.nv[n].n = r4.nv[n].n := by
                have h1 := hext.at_ n (by rw [RS.ns_len]; exact hn4)
                rw [← HN8.o, RS.ns_at r6 hn6, RS.ns_at r4 hn4] at h1
                exact Option.some.inj h1
              have hkl6 : r6.nv[n].n.kids.length < r6.nv.length ∧ r6.nv[n].n.pcs.length < r6.nv.length := by
                rw [hnx]
                have := HKL4.o
                omega
              have HKL6 := hq hkl6
              clear hnx hkl6
              apply_assumption
              apply wp_seq_k
              intro KX4 hKX4
              go_cut [] from 42 to 134 (fun wx => ∃ r9 : RS, Hq (Pd w0 g s L vL k6 r9 wx) ∧ Hq (Fr (r6.own g) (r9.own g) wc wx) ∧ Hq (∃ v', r9 = r6.upd n (kidV r6.nv[n] r4.nv.length v')))
              case first =>
                obtain ⟨gN, cN, hvN, hcN, hmN, hfN, hnode⟩ := HR9.o.node hn6
                have c3 := HR9.o.blk.at_ 3
                have m5 := hnode 5 (by omega)
                simp only [nodeC, List.getElem?_cons_succ, List.getElem?_cons_zero] at m5
                obtain ⟨kA, kC, hks⟩ := row_shape (HR9.o.kr n hn6)
                rw [hks] at m5
                have c3' : wc.cell? ⟨g, 3, none⟩ = some (.slice (some ⟨gN, 0, none⟩) r6.nv.length cN) := by rw [← hvN]; exact c3
                have HKS := hq hks
                have HVN := hq hvN
                have hba := below_alloc wc (.cells #[.int .i64 (r4.nv.length : Int)] 3)
                have m5z := (hba.cell (cell_blk' m5)).trans m5
                have c3z := (hba.cell (cell_blk' c3')).trans c3'
                have HRA := hq (HR9.o.grow hba.drew)
                have HBA := hq hba.drew
                have HKR := hq (HRA.o.kr n hn6)
                rw [HKS.o] at HKR
                have hwx : w0.heap.size ≤ wc.heap.size := HR9.o.bl.size
                have hne1 : gN ≠ g := fun e => HR9.o.ng (by rw [hvN, e]; rfl)
                have HNR : Hq ((Value.slice kA r6.nv[n].n.kids.length kC).ownBlock ≠ some g) := hq (fun e => HR9.o.kg hn6 (by rw [hks]; exact e))
                obtain ⟨i1, hi1, hy0, hy1, hy2⟩ := info_parts infoI
                have hnz : (n : Int) < (r6.nv.length : Int) := by omega
                have hkl6 := HKL6.o.1
                have hn49 := HR9.o.n4
                clear c3 hks hvN hnode hba hext HBAD HGOOD HR5
                go_wp2_with fail
                rw [show (Op.load 50 (.tmp 92)) = opQ (Op.load 50 (.tmp 92)) from rfl]
                have hld : opQ (Op.load 50 (.tmp 92)) = Op.load 50 (.tmp 92) := rfl
                go_region_held3 (fun W => W.cell? ⟨g, 3, none⟩ = some (.slice (some ⟨gN, 0, none⟩) r6.nv.length cN))
                  (first | exact c3' | exact c3z | exact hT6 | exact one_put hT6 hne1 _)
                  ((refine step_at rfl (.tmp 93) (.tmp 95) 50 rfl w0.heap.size 3 i1 (.int .i64 0) 1 8 Tryd.underlying50 hi1 hy0 hy1 hy2 rfl (by decide) (.slice kA r6.nv[n].n.kids.length kC) r6.nv[n].n.kids.length (kidC r6.nv[n].n.kids) (by simp [Act.eval]) HKR.o ⟨wc.heap.size, 0, none⟩ 1 1 [.int .i64 (r4.nv.length : Int)] (by simp [Act.eval]) rfl (cells_of_new wc [.int .i64 (r4.nv.length : Int)] _) (by simp [Value.oneCell']) (by unfold maxLen; omega) (by omega) (by show w0.heap.size ≤ (wc.alloc _).heap.size; rw [World.size_alloc]; omega) ?_; intro v' W6 hown6 hgrow6 hat6; obtain ⟨g6, c6, rfl⟩ := row_shape1 hown6; have HG6 := hq (show World.grownBy _ W6 r6.nv[n].k.ownBlock by rw [HKS.o]; exact hgrow6); have m5' := (HRA.o.mid hn6 HVN.o HG6.o (.inl rfl)).1 5 (by omega); have hff' := (HRA.o.mid hn6 HVN.o HG6.o (.inl rfl)).2; simp only [nodeC, List.getElem?_cons_succ, List.getElem?_cons_zero] at m5'; have hT6 := cell_grown (by exact c3z) hgrow6 HNR.o))
                all_goals
                  have hkid := HRA.o.kid hn6 HVN.o hkl6 hown6 HG6.o (by rw [HKS.o]; exact hat6)
                  have HZ := hq (And.intro hkid.1 ((Fr.of_below (r6.own g) HBA.o).trans hkid.2))
                  clear hkid
                  go_wp2_with fail
                  go_meet
                  exact ⟨_, hq HZ.o.1, hq HZ.o.2, hq ⟨_, rfl⟩⟩
              case rest =>
                obtain ⟨r9, HR10, HF11, HRU⟩ := hcut
                have hl9 : r9.nv.length = r6.nv.length := by
                  obtain ⟨v0, hru⟩ := HRU.o
                  rw [hru]; exact upd_len _ _ _
                have hn9 : n < r9.nv.length := by omega
                have hp9 : r9.nv[n].n.pcs.length < r9.nv.length := by
                  obtain ⟨v0, hru⟩ := HRU.o
                  have hk6 := HKL6.o.2
                  clear HR10 HF11 HRU hl9
                  subst hru
                  rw [upd_get r6 hn6 _ hn9, upd_len]
                  exact hk6
                have HNR9 := hq (row_fr (row_fr HH9.o HF11.o (HR9.o.notown HH9.o)) (Fr.refl (fun _ => False) _) (fun _ _ h => h))
                apply_assumption
                apply wp_seq_k
                intro KX5 hKX5
                go_cut [] from 42 to 134 (fun wx => ∃ r10 : RS, Hq (Pd w0 g s L vL k6 r10 wx) ∧ Hq (Fr (r9.own g) (r10.own g) wc wx) ∧ Hq (∃ v', r10 = r9.upd n (pcV r9.nv[n] (fr, hereAt s L k6) v')))
                case first =>
                  obtain ⟨gN, cN, hvN, hcN, hmN, hfN, hnode⟩ := HR10.o.node hn9
                  have c3 := HR10.o.blk.at_ 3
                  have m6 := hnode 6 (by omega)
                  simp only [nodeC, List.getElem?_cons_succ, List.getElem?_cons_zero] at m6
                  obtain ⟨kA, kC, hks⟩ := row_shape (HR10.o.pr n hn9)
                  rw [hks] at m6
                  have c3' : wc.cell? ⟨g, 3, none⟩ = some (.slice (some ⟨gN, 0, none⟩) r9.nv.length cN) := by rw [← hvN]; exact c3
                  have HKS := hq hks
                  have HVN := hq hvN
                  have hwx : w0.heap.size ≤ wc.heap.size := HR10.o.bl.size
                  have hne1 : gN ≠ g := fun e => HR10.o.ng (by rw [hvN, e]; rfl)
                  have HNR : Hq ((Value.slice kA r9.nv[n].n.pcs.length kC).ownBlock ≠ some g) := hq (fun e => HR10.o.pg hn9 (by rw [hks]; exact e))
                  obtain ⟨i1, hi1, hy0, hy1, hy2⟩ := info_parts infoSp
                  have hnz : (n : Int) < (r9.nv.length : Int) := by omega
                  have hn49 := HR10.o.n4
                  have HCH := hq (fun W' hr => phere_any (W := W') (r := r9) (k := k6) (L := L) (vL := vL) (s := s) (g := g) (w0 := w0) hr)
                  clear c3 hks hvN hnode hext HBAD HGOOD HR5
                  generalize hereAt s L k6 = hh at *
                  go_wp2_with fail
                  rw [show (Op.load 51 (.tmp 110)) = opQ (Op.load 51 (.tmp 110)) from rfl]
                  have hld : opQ (Op.load 51 (.tmp 110)) = Op.load 51 (.tmp 110) := rfl
                  go_region_held3 (fun W => W.cell? ⟨g, 3, none⟩ = some (.slice (some ⟨gN, 0, none⟩) r9.nv.length cN))
                    (first | exact c3' | exact c3w | exact c3z | exact hT6 | exact one_put hT6 hne1 _)
                    (first
                      | (refine step_at rfl (.tmp 111) (.tmp 116) 51 rfl w0.heap.size 49 i1 (.agg #[.int .i64 0, .int .i64 0]) 2 16 Tryd.underlying51 hi1 hy0 hy1 hy2 rfl (by decide) (.slice kA r9.nv[n].n.pcs.length kC) r9.nv[n].n.pcs.length (pcC r9.nv[n].n.pcs) (by simp [Act.eval]) HKR.o ⟨w9.heap.size, 0, none⟩ 1 1 [.int .i64 (fr : Int), .int .i64 (hh : Int)] (by simp [Act.eval]) rfl (cells_of_new w9 [.int .i64 (fr : Int), .int .i64 (hh : Int)] _) (by simp [Value.oneCell']) (by unfold maxLen; omega) (by omega) (by show w0.heap.size ≤ (w9.alloc _).heap.size; rw [World.size_alloc]; omega) ?_; intro v' W6 hown6 hgrow6 hat6; obtain ⟨g6, c6, rfl⟩ := row_shape1 hown6; have HG6 := hq (show World.grownBy _ W6 r9.nv[n].p.ownBlock by rw [HKS.o]; exact hgrow6); have m6' := (HRA.o.mid hn9 HVN.o HG6.o (.inr rfl)).1 6 (by omega); have hff' := (HRA.o.mid hn9 HVN.o HG6.o (.inr rfl)).2; simp only [nodeC, List.getElem?_cons_succ, List.getElem?_cons_zero] at m6'; have hT6 := cell_grown (by exact c3z) hgrow6 HNR.o)
                      | (go_at_call 49; refine (HCH.o _ (HR10.o.grow (Below.refl _ _).drew)).mono ?_; rintro e' w9 ⟨rfl, hb9⟩; have hbw : Below wc.heap.size wc w9 := below_trans (Below.refl _ _).drew hb9; have c3w := (hbw.cell (cell_blk' c3')).trans c3'; have m6w := (hbw.cell (cell_blk' m6)).trans m6; have hba := below_alloc w9 (.cells #[.int .i64 (fr : Int), .int .i64 (hh : Int)] 49); have c3z := (hba.cell (cell_blk' c3w)).trans c3w; have m6z := (hba.cell (cell_blk' m6w)).trans m6w; have HRA := hq (HR10.o.grow (below_trans hbw hba)); have HBA := hq (below_trans hbw hba); have HKR := hq (HRA.o.pr n hn9); rw [HKS.o] at HKR; have hws := hbw.size))
                  all_goals
                    have hpc := HRA.o.piece hn9 HVN.o hp9 hown6 HG6.o (by rw [HKS.o]; exact hat6)
                    have HZ := hq (And.intro hpc.1 ((Fr.of_below (r9.own g) HBA.o).trans hpc.2))
                    clear hpc
                    go_wp2_with fail
                    go_meet
                    exact ⟨_, hq HZ.o.1, hq HZ.o.2, hq ⟨_, rfl⟩⟩
                case rest =>
                  obtain ⟨r10, HR11, HF12, HRV⟩ := hcut
                  have HNS : Hq (r10.ns = addN r6.ns n r4.nv.length (fr, hereAt s L k6) ∧ r10.nv.length = r6.nv.length) := hq (by
                    obtain ⟨v0, hru⟩ := HRU.o
                    obtain ⟨v1, hrv⟩ := HRV.o
                    clear HR10 HF11 HRU HR11 HF12 HRV HNR9 hp9
                    subst hru
                    subst hrv
                    exact ⟨add_ns2 r6 hn6 _ _ _ _ _, by rw [upd_len, upd_len]⟩)
                  have hx4 := kidM_ext (fun l key ns l' ns' h => valueM_ext _ _ _ _ _ _ _ _ h) HKJ.o
                  have hk64 : L.length - k6 < L.length - k4 := by
                    have := hx4.ts
                    rwa [← HD8.o, List.length_drop, List.length_drop] at this
                  have hk6 : k6 < L.length := by
                    rcases Nat.lt_or_ge k6 L.length with h | h
                    · exact h
                    · have e := HEN.o
                      unfold kindAt at e
                      rw [List.getElem?_eq_none h] at e
                      simp at e
                      omega
                  have HHH : Hq (hereAt s L k6 = L[k6].2.1) := hq (by unfold hereAt; rw [List.getElem?_eq_getElem hk6]; rfl)
                  have HKT : Hq (kindAt L k6 = L[k6].1) := hq (by unfold kindAt; rw [List.getElem?_eq_getElem hk6]; rfl)
                  have HTM : Hq (takeM s.size 6 (jendM ob) l1 = .inr (L[k6], L.drop (k6 + 1))) := hq (by
                    rw [← HD8.o]
                    rcases takeM_at s L k6 6 (jendM ob) (by omega) (by omega) with ⟨_, h0, h⟩ | ⟨h, _⟩
                    · exact h
                    · rcases HEN.o with e | e
                      · exact absurd e h.1
                      · exact absurd e h.2)
                  have HFA := hq ((HF10.o.trans HF11.o).trans HF12.o)
                  have HHA := hq (row_fr HNR9.o HF12.o (HR10.o.notown HNR9.o))
                  have HCK6 := hq (fun W' hr => HCK.o k6 r10 W' hr)
                  have HCH6 := hq (fun W' hr => phere_any (W := W') (r := r10) (k := k6) (L := L) (vL := vL) (s := s) (g := g) (w0 := w0) hr)
                  have hsz : hereAt s L k6 ≤ s.size := by
                    have := HR11.o.tl L[k6] (List.getElem_mem hk6)
                    rw [HHH.o]; omega
                  clear HCK HBAD HR9 HF10 HH9 HR10 HF11 HRU HRV HNR9 HF12 HKL6 hp9 hext hx4
                  apply_assumption
                  go_wp2_with fail
                  refine (HCK6.o _ HR11.o).mono ?_
                  rintro e W9 ⟨rfl, hb⟩
                  have HR12 := hq (HR11.o.grow hb)
                  have HFB := hq (HFA.o.trans (Fr.of_below _ hb))
                  have HHB := hq (row_fr HHA.o (Fr.of_below (fun _ => False) hb) (fun _ _ h => h))
                  clear hb HCK6 HR11 HFA HHA
                  go_wp2_with fail
                  refine (HCH6.o _ HR12.o).mono ?_
                  rintro e W10 ⟨rfl, hb⟩
                  have HR13 := hq (HR12.o.grow hb)
                  have HFC := hq (HFB.o.trans (Fr.of_below _ hb))
                  have HHC := hq (row_fr HHB.o (Fr.of_below (fun _ => False) hb) (fun _ _ h => h))
                  clear hb HCH6 HR12 HFB HHB
                  obtain ⟨_, _, _, _, _, _, _, _, c2, _, _, _, cf⟩ := HR13.o.cells
                  have HST := hq (HR13.o.step (k1 := k6 + 1) (by omega))
                  have HFS := hq (HFC.o.trans (HR13.o.stepF (.int .i64 ((k6 + 1 : Nat) : Int))))
                  have HHS := hq (row_fr HHC.o (HR13.o.stepF (.int .i64 ((k6 + 1 : Nat) : Int))) (HR13.o.notown HHC.o))
                  have e5 : ((k6 + 1 : Nat) : Int) = (k6 : Int) + 1 := by omega
                  rw [e5] at HST HFS HHS
                  have hk6z : (k6 : Int) < (L.length : Int) := by omega
                  clear e5 HR13 HFC HHC
                  by_cases hlast : kindAt L k6 = jendM ob
                  · have e6 : ((kindAt L k6 : Int) == (jendM ob : Int)) = true := by rw [beq_iff_eq]; omega
                    have hR := HR5.o.trans (loopM_end HKJ.o HTM.o (by rw [← HKT.o]; exact hlast))
                    have HVV : Hq (PP (.returned (.bool true)) (W10.setCell ⟨g, 2, none⟩ (.int .i64 ((k6 : Int) + 1)))) := hq (HGOOD.o _ _ (k6 + 1) r10 L[k6] _ hR HST.o HFS.o rfl (by have := HNS.o.2; omega) (by omega) (by rw [Nat.add_sub_cancel]; exact List.getElem?_eq_getElem hk6) (by rw [HNS.o.1, HHH.o, HN8.o, RS.ns_len]))
                    clear hR HGOOD HR5 HKJ HTM HKT HHH HNS hlast HEN HST HFS HHS
                    generalize kindAt L k6 = kk6 at *
                    generalize hereAt s L k6 = hh at *
                    generalize jendM ob = en at *
                    go_wp2_with fail
                    first | exact HVV.o | (go_ret; exact HVV.o)
                  · have e6 : ((kindAt L k6 : Int) == (jendM ob : Int)) = false := by rw [beq_eq_false_iff_ne]; omega
                    have h6 : L[k6].1 = 6 := by
                      rcases HEN.o with e | e
                      · rw [← HKT.o]; exact e
                      · exact absurd e hlast
                    have hbe : L[k6].2.2 = hereAt s L k6 + 1 := by rw [HHH.o]; exact hcm _ (List.getElem_mem hk6) h6
                    have HRN : Hq (R = loopM (valueM s.size (keyTx s) d) ob s.size (keyTx s) n f had' (hereAt s L k6 + 1) (L.drop (k6 + 1)) r10.ns) := hq (by
                      rw [HR5.o.trans (loopM_more HKJ.o HTM.o (by rw [← HKT.o]; exact hlast)), hbe, HNS.o.1, HHH.o, HN8.o, RS.ns_len])
                    have hl10 := HNS.o.2
                    clear HGOOD HR5 HKJ HTM HKT HHH HNS hlast HEN h6 hbe
                    generalize kindAt L k6 = kk6 at *
                    generalize hereAt s L k6 = hh at *
                    go_wp2_with fail
                    go_roundg f
                    case measure => omega
                    case rel => exact ⟨k6 + 1, r10, had', hh + 1, int_eq (by omega), by omega, by omega, by omega, HST, HHS, HFS, HRN⟩
/-- value's contract, at every level -/
theorem pvalue_any {w0 : World} {g : Nat} {s : ByteArray} {L : List Tok} {vL : Value} (hs : s.size ≤ 65536) (hcm : ∀ t ∈ L, t.1 = 6 → t.2.2 = t.2.1 + 1) : ∀ (d Lv : Nat), Lv + d = 33 → PValOk w0 g s L vL d Lv
  | 0, Lv, hL => pvalue_step hL (fun d' h => by omega)
  | d + 1, Lv, hL => pvalue_step hL (fun d' h => by
    obtain rfl : d = d' := by omega
    exact pkids_step (by omega) hs hcm (pvalue_any hs hcm d (Lv + 1) (by omega)))
end Go.Proofs.YtmomildkopainaaDoor
