/-
  WALKS: the document's parser: what value and kids answer; value over kids.
-/
import Derived.Test.YtmomildkopainaaDoorJpC
import Derived.Deep.RegionHeld3
import Derived.IntWalk
namespace Go.Proofs.YtmomildkopainaaDoor
open Go.RowKit

/-- what is kept of a try that failed -/
def PBad (w0 : World) (g : Nat) (s : ByteArray) (L : List Tok) (vL : Value) (r : RS) (W : World) (wh : Nat) (er : Int) (e : Ending) (W' : World) : Prop :=
  e = .returned (.bool false) ∧ ∃ k' r', Pd w0 g s L vL k' r' W' ∧ Fr (r.own g) (r'.own g) W W' ∧ r'.wh = (wh : Int) ∧ r'.er = er
def PValPost (w0 : World) (g : Nat) (s : ByteArray) (L : List Tok) (vL : Value) (d : Nat) (key : Nat × Nat) (k : Nat) (r : RS) (W : World) (e : Ending) (W' : World) : Prop :=
  match valueM s.size (keyTx s) d (L.drop k) key r.ns with
  | .inl (wh, er) => PBad w0 g s L vL r W wh er e W'
  | .inr (l, ns) => e = .returned (.bool true) ∧ ∃ k' r', Pd w0 g s L vL k' r' W' ∧ Fr (r.own g) (r'.own g) W W' ∧ L.drop k' = l ∧ r'.ns = ns
def PKidsPost (w0 : World) (g : Nat) (s : ByteArray) (L : List Tok) (vL : Value) (d : Nat) (ob : Bool) (n k : Nat) (r : RS) (W : World) (e : Ending) (W' : World) : Prop :=
  match listM (valueM s.size (keyTx s) d) ob s.size (keyTx s) n (L.drop k) r.ns with
  | .inl (wh, er) => PBad w0 g s L vL r W wh er e W'
  | .inr (l, ns) => e = .returned (.bool true) ∧ ∃ k' r' t, Pd w0 g s L vL k' r' W' ∧ Fr (r.own g) (r'.own g) W W' ∧ L.drop k' = l ∧ n < r'.nv.length ∧ 1 ≤ k' ∧ L[k' - 1]? = some t ∧ closeN r'.ns n t.2.2 = ns
def PValOk (w0 : World) (g : Nat) (s : ByteArray) (L : List Tok) (vL : Value) (d Lv : Nat) : Prop := ∀ (k : Nat) (r : RS) (W : World) (ka kb : Nat), Pd w0 g s L vL k r W →
  Calls Tryd.prog 26 #[.pointer (some ⟨g, 0, none⟩), .int .i64 (Lv : Int), .agg #[.int .i64 (ka : Int), .int .i64 (kb : Int)]] W (PValPost w0 g s L vL d (ka, kb) k r W)
def PKidsOk (w0 : World) (g : Nat) (s : ByteArray) (L : List Tok) (vL : Value) (d Lv : Nat) : Prop := ∀ (ob : Bool) (n k : Nat) (r : RS) (W : World), Pd w0 g s L vL k r W → n < r.nv.length → 1 ≤ k → (∀ t, L[k - 1]? = some t → toN r.ns n = t.2.2) →
  Calls Tryd.prog 48 #[.pointer (some ⟨g, 0, none⟩), .int .i64 (n : Int), .int .i64 (Lv : Int), .int .i64 (jendM ob : Int)] W (PKidsPost w0 g s L vL d ob n k r W)
theorem Pd.close {w0 W : World} {g : Nat} {s : ByteArray} {L : List Tok} {vL : Value} {k0 : Nat} {r : RS} (h : Pd w0 g s L vL k0 r W) {k : Nat} (hk : k < r.nv.length) {gN cap : Nat} (hvN : r.vN = .slice (some ⟨gN, 0, none⟩) r.nv.length cap) (b : Nat) :
    Pd w0 g s L vL k0 (r.upd k (closeV r.nv[k] b)) (W.setCell ⟨gN, k * 7 + 2, none⟩ (.int .i64 (b : Int))) ∧ Fr (r.own g) ((r.upd k (closeV r.nv[k] b)).own g) W (W.setCell ⟨gN, k * 7 + 2, none⟩ (.int .i64 (b : Int))) :=
  h.upd hk hvN (by omega) (by simp [nodeC, closeV]) (World.grownBy.mk rfl rfl rfl (Nat.le_refl _) fun _ _ _ => rfl : W.grownBy W none) (.inl rfl) (h.kr k hk) (h.pr k hk) (.inl rfl) (.inl rfl) (h.kl k hk)
theorem Pd.stepF {w0 W : World} {g : Nat} {s : ByteArray} {L : List Tok} {vL : Value} {k0 : Nat} {r : RS} (_h : Pd w0 g s L vL k0 r W) (u : Value) : Fr (r.own g) (r.own g) W (W.setCell ⟨g, 2, none⟩ u) := (Fr.refl _ _).set (.inl rfl) u
theorem close_leaf (ns : List JN) (t : Tok) (key : Nat × Nat) : closeN (ns ++ [leafN t key]) ns.length t.2.2 = ns ++ [leafN t key] := by
  unfold closeN
  refine List.ext_getElem? fun i => ?_
  rw [List.getElem?_modify]
  by_cases h : ns.length = i
  · subst h
    simp [leafN]
  · simp [h]
theorem toN_leaf (ns : List JN) (t : Tok) (key : Nat × Nat) : toN (ns ++ [leafN t key]) ns.length = t.2.2 := by
  unfold toN
  simp [leafN]
/-- the kind of value of a token, in two steps -/
theorem kindM_two (k : Nat) : (if k = 2 then 6 else if k = 4 then 5 else if kindM k ≤ 4 then kindM k else 0) = kindM k := by
  unfold kindM
  by_cases h1 : k = 12
  · simp [h1]
  · by_cases h2 : k = 10 ∨ k = 11
    · rcases h2 with h | h <;> simp [h]
    · by_cases h3 : k = 9
      · simp [h3]
      · by_cases h4 : k = 8
        · simp [h4]
        · by_cases h5 : k = 4
          · simp [h5]
          · by_cases h6 : k = 2
            · simp [h6]
            · simp [h1, h2, h3, h4, h5, h6]
theorem valueM_at0 {s : ByteArray} {L : List Tok} {k d : Nat} {tx : Nat → Nat → Bs} {key : Nat × Nat} {ns : List JN} (h : kindM (kindAt L k) = 0) : valueM s.size tx d (L.drop k) key ns = .inl (hereAt s L k, 2) := by
  rcases Nat.lt_or_ge k L.length with hk | hk
  · have e1 : kindAt L k = L[k].1 := by unfold kindAt; rw [List.getElem?_eq_getElem hk]; rfl
    have e2 : hereAt s L k = L[k].2.1 := by unfold hereAt; rw [List.getElem?_eq_getElem hk]; rfl
    rw [e2, List.drop_eq_getElem_cons hk]
    rw [e1] at h
    exact valueM_0 h
  · have e2 : hereAt s L k = s.size := by unfold hereAt; rw [List.getElem?_eq_none hk]; rfl
    rw [e2, List.drop_eq_nil_of_le hk]
    exact valueM_nil
theorem valueM_at1 {s : ByteArray} {L : List Tok} {k : Nat} (h : kindM (kindAt L k) ≠ 0) : ∃ hk : k < L.length, kindAt L k = L[k].1 ∧ hereAt s L k = L[k].2.1 ∧ L.drop k = L[k] :: L.drop (k + 1) := by
  rcases Nat.lt_or_ge k L.length with hk | hk
  · exact ⟨hk, by unfold kindAt; rw [List.getElem?_eq_getElem hk]; rfl, by unfold hereAt; rw [List.getElem?_eq_getElem hk]; rfl, List.drop_eq_getElem_cons hk⟩
  · exfalso
    apply h
    unfold kindAt
    rw [List.getElem?_eq_none hk]; rfl
theorem six_grow {W W' : World} {p1 p2 p3 p4 p5 p6 : Addr} {v1 v2 v3 v4 v5 v6 : Value} (h : W.cell? p1 = some v1 ∧ W.cell? p2 = some v2 ∧ W.cell? p3 = some v3 ∧ W.cell? p4 = some v4 ∧ W.cell? p5 = some v5 ∧ W.cell? p6 = some v6) (hb : Below W.heap.size W W') :
    W'.cell? p1 = some v1 ∧ W'.cell? p2 = some v2 ∧ W'.cell? p3 = some v3 ∧ W'.cell? p4 = some v4 ∧ W'.cell? p5 = some v5 ∧ W'.cell? p6 = some v6 :=
  ⟨(hb.cell (cell_blk' h.1)).trans h.1, (hb.cell (cell_blk' h.2.1)).trans h.2.1, (hb.cell (cell_blk' h.2.2.1)).trans h.2.2.1, (hb.cell (cell_blk' h.2.2.2.1)).trans h.2.2.2.1, (hb.cell (cell_blk' h.2.2.2.2.1)).trans h.2.2.2.2.1, (hb.cell (cell_blk' h.2.2.2.2.2)).trans h.2.2.2.2.2⟩
theorem cell_grown {W W' : World} {p : Addr} {v : Value} {row : Option Nat} (h : W.cell? p = some v) (hg : W.grownBy W' row) (hr : row ≠ some p.block) : W'.cell? p = some v :=
  (World.cell?_of_block (a := p) (hg.block p.block (cell_blk' h) fun e => hr e.symm)).trans h
theorem six_grown {W W' : World} {p1 p2 p3 p4 p5 p6 : Addr} {v1 v2 v3 v4 v5 v6 : Value} {row : Option Nat} (h : W.cell? p1 = some v1 ∧ W.cell? p2 = some v2 ∧ W.cell? p3 = some v3 ∧ W.cell? p4 = some v4 ∧ W.cell? p5 = some v5 ∧ W.cell? p6 = some v6) (hg : W.grownBy W' row)
    (h1 : row ≠ some p1.block) (h2 : row ≠ some p2.block) (h3 : row ≠ some p3.block) (h4 : row ≠ some p4.block) (h5 : row ≠ some p5.block) (h6 : row ≠ some p6.block) :
    W'.cell? p1 = some v1 ∧ W'.cell? p2 = some v2 ∧ W'.cell? p3 = some v3 ∧ W'.cell? p4 = some v4 ∧ W'.cell? p5 = some v5 ∧ W'.cell? p6 = some v6 :=
  ⟨cell_grown h.1 hg h1, cell_grown h.2.1 hg h2, cell_grown h.2.2.1 hg h3, cell_grown h.2.2.2.1 hg h4, cell_grown h.2.2.2.2.1 hg h5, cell_grown h.2.2.2.2.2 hg h6⟩
theorem cell_put {W : World} {p q : Addr} {v : Value} (h : W.cell? p = some v) (hne : q ≠ p) (u : Value) : (W.setCell q u).cell? p = some v := by
  first | rw [World.cell?_setCell_other _ hne] | rw [World.cell?_setCell_other _ _ hne] | rw [World.cell?_setCell_other _ _ _ hne] | rw [World.cell?_setCell_other _ _ _ _ hne]
  exact h
theorem six_put {W : World} {g gT bK o1 o2 o3 o4 o5 o6 q : Nat} {v1 v2 v3 v4 v5 v6 : Value} (h : W.cell? ⟨g, o1, none⟩ = some v1 ∧ W.cell? ⟨g, o2, none⟩ = some v2 ∧ W.cell? ⟨gT, o3, none⟩ = some v3 ∧ W.cell? ⟨gT, o4, none⟩ = some v4 ∧ W.cell? ⟨bK, o5, none⟩ = some v5 ∧ W.cell? ⟨bK, o6, none⟩ = some v6)
    (h1 : g ≠ gT) (h2 : g ≠ bK) (h3 : q ≠ o1) (h4 : q ≠ o2) (u : Value) : (W.setCell ⟨g, q, none⟩ u).cell? ⟨g, o1, none⟩ = some v1 ∧ (W.setCell ⟨g, q, none⟩ u).cell? ⟨g, o2, none⟩ = some v2 ∧ (W.setCell ⟨g, q, none⟩ u).cell? ⟨gT, o3, none⟩ = some v3 ∧ (W.setCell ⟨g, q, none⟩ u).cell? ⟨gT, o4, none⟩ = some v4 ∧ (W.setCell ⟨g, q, none⟩ u).cell? ⟨bK, o5, none⟩ = some v5 ∧ (W.setCell ⟨g, q, none⟩ u).cell? ⟨bK, o6, none⟩ = some v6 :=
  ⟨cell_put h.1 (fun e => by injection e with _ e2; exact h3 e2) u, cell_put h.2.1 (fun e => by injection e with _ e2; exact h4 e2) u, cell_put h.2.2.1 (fun e => by injection e with e2; exact h1 e2) u, cell_put h.2.2.2.1 (fun e => by injection e with e2; exact h1 e2) u,
    cell_put h.2.2.2.2.1 (fun e => by injection e with e2; exact h2 e2) u, cell_put h.2.2.2.2.2 (fun e => by injection e with e2; exact h2 e2) u⟩
theorem four_put {W : World} {g gT gN o1 o2 o3 o4 q : Nat} {v1 v2 v3 v4 : Value} (h : W.cell? ⟨g, o1, none⟩ = some v1 ∧ W.cell? ⟨g, o2, none⟩ = some v2 ∧ W.cell? ⟨g, o3, none⟩ = some v3 ∧ W.cell? ⟨gT, o4, none⟩ = some v4)
    (h1 : gN ≠ g) (h2 : gN ≠ gT) (u : Value) : (W.setCell ⟨gN, q, none⟩ u).cell? ⟨g, o1, none⟩ = some v1 ∧ (W.setCell ⟨gN, q, none⟩ u).cell? ⟨g, o2, none⟩ = some v2 ∧ (W.setCell ⟨gN, q, none⟩ u).cell? ⟨g, o3, none⟩ = some v3 ∧ (W.setCell ⟨gN, q, none⟩ u).cell? ⟨gT, o4, none⟩ = some v4 :=
  ⟨cell_put h.1 (fun e => by injection e with e2; exact h1 e2) u, cell_put h.2.1 (fun e => by injection e with e2; exact h1 e2) u, cell_put h.2.2.1 (fun e => by injection e with e2; exact h1 e2) u, cell_put h.2.2.2 (fun e => by injection e with e2; exact h2 e2) u⟩
set_option maxHeartbeats 4000000 in
set_option maxRecDepth 1000000 in
theorem pvalue_step {w0 : World} {g : Nat} {s : ByteArray} {L : List Tok} {vL : Value} {d Lv : Nat} (hL : Lv + d = 33) (HKI : ∀ d', d = d' + 1 → PKidsOk w0 g s L vL d' Lv) : PValOk w0 g s L vL d Lv := by
  intro k r W ka kb h
  have hb0 := below_alloc W (.cells #[.int .i64 (ka : Int), .int .i64 (kb : Int)] 49)
  have HR1 := hq (h.grow hb0)
  have HF1 := hq (Fr.of_below (r.own g) hb0)
  have HX1 := hq (Whole.made W 49 #[.int .i64 (ka : Int), .int .i64 (kb : Int)])
  have HGL := hq h.blk.lt
  have HPB : Hq (∀ (wh : Nat) (er : Int) W', valueM s.size (keyTx s) d (L.drop k) (ka, kb) r.ns = .inl (wh, er) → Pd w0 g s L vL k (r.bad (wh : Int) er) W' → Fr (r.own g) (r.own g) W W' → PValPost w0 g s L vL d (ka, kb) k r W (.returned (.bool false)) W') := hq (fun wh er W' h1 h2 h3 => by
    unfold PValPost; rw [h1]; exact ⟨rfl, k, _, h2, h3, rfl, rfl⟩)
  obtain ⟨PP, hPP⟩ : ∃ PP, PP = PValPost w0 g s L vL d (ka, kb) k r W := ⟨_, rfl⟩
  have HPP := hq hPP
  rw [← hPP] at HPB ⊢
  have HCK := hq (fun W' (hr : Pd w0 g s L vL k r W') => pkind_any hr)
  have HCW := hq (fun W' er (hr : Pd w0 g s L vL k r W') => pwrong_any hr er)
  have HK0 := hq (fun (h : kindM (kindAt L k) = 0) => valueM_at0 (s := s) (d := d) (tx := keyTx s) (key := (ka, kb)) (ns := r.ns) h)
  have HK1 := hq (fun (h : kindM (kindAt L k) ≠ 0) => valueM_at1 (s := s) h)
  have HCS := hq (pscalar_any (kindAt L k))
  have HTW := hq (kindM_two (kindAt L k))
  have hlz : (Lv : Int) ≤ 33 := by omega
  clear hPP h
  generalize hkk : kindAt L k = kk at *
  have HKK := hq hkk
  clear hkk hb0
  go_enter Tryd.func26, Tryd.ntmps26
  go_upto_region 1 with fail
  go_cut [7] from 10 to 12 (fun kd wx => kd = .int .i64 ((if kindM kk ≤ 4 then kindM kk else 0 : Nat) : Int) ∧ Hq (Below (W.alloc (.cells #[.int .i64 (ka : Int), .int .i64 (kb : Int)] 49)).heap.size (W.alloc (.cells #[.int .i64 (ka : Int), .int .i64 (kb : Int)] 49)) wx))
  case first =>
    go_wp2_with fail
    refine (HCK.o _ HR1.o).mono ?_
    rintro e W2 ⟨rfl, hb⟩
    have HB := hq hb
    clear hb
    go_wp2_with fail
    refine (HCS.o W2).mono ?_
    rintro e W3 ⟨rfl, rfl⟩
    generalize (if kindM kk ≤ 4 then kindM kk else 0) = sc at *
    go_wp2_with fail
    go_meet
    exact ⟨rfl, HB⟩
  obtain ⟨rfl, hb⟩ := hcut
  have HR2 := hq (HR1.o.grow hb.o)
  have HF2 := hq (HF1.o.trans (Fr.of_below _ hb.o))
  have HX2 := hq (HX1.o.grow hb.o)
  clear hb HR1 HF1 HX1 HCS
  generalize (if kindM kk ≤ 4 then kindM kk else 0) = sc at *
  generalize wc = W2 at *
  apply_assumption
  apply wp_seq_k
  intro KX hKX
  go_cut [7] from 13 to 15 (fun kd wx => kd = .int .i64 ((if kk = 4 then 5 else sc : Nat) : Int) ∧ Hq (Below W2.heap.size W2 wx))
  case first =>
    go_wp2_with fail
    refine (HCK.o _ HR2.o).mono ?_
    rintro e W3 ⟨rfl, hb⟩
    have HB := hq hb
    clear hb
    by_cases h4 : kk = 4
    · have h4z : ((kk : Int) == 4) = true := by rw [beq_iff_eq]; omega
      have H4 := hq h4
      clear h4
      go_wp2_with fail
      go_meet
      exact ⟨by rw [if_pos H4.o] <;> rfl, HB⟩
    · have h4z : ((kk : Int) == 4) = false := by rw [beq_eq_false_iff_ne]; omega
      have H4 := hq h4
      clear h4
      go_wp2_with fail
      go_meet
      exact ⟨by rw [if_neg H4.o], HB⟩
  case rest =>
    obtain ⟨rfl, hb⟩ := hcut
    have HR3 := hq (HR2.o.grow hb.o)
    have HF3 := hq (HF2.o.trans (Fr.of_below _ hb.o))
    have HX3 := hq (HX2.o.grow hb.o)
    clear hb HR2 HF2 HX2
    have HTW2 : Hq ((if kk = 2 then 6 else if kk = 4 then 5 else sc) = kindM kk) := HTW
    generalize (if kk = 4 then 5 else sc) = sd at *
    apply_assumption
    apply wp_seq_k
    intro KX hKX
    go_cut [7] from 16 to 18 (fun kd wx => kd = .int .i64 (kindM kk : Int) ∧ Hq (Below wc.heap.size wc wx))
    case first =>
      go_wp2_with fail
      refine (HCK.o _ HR3.o).mono ?_
      rintro e W4 ⟨rfl, hb⟩
      have HB := hq hb
      clear hb
      by_cases h4 : kk = 2
      · have h4z : ((kk : Int) == 2) = true := by rw [beq_iff_eq]; omega
        have H4 := hq h4
        clear h4
        go_wp2_with fail
        go_meet
        exact ⟨by rw [← HTW2.o, if_pos H4.o] <;> rfl, HB⟩
      · have h4z : ((kk : Int) == 2) = false := by rw [beq_eq_false_iff_ne]; omega
        have H4 := hq h4
        clear h4
        go_wp2_with fail
        go_meet
        exact ⟨by rw [← HTW2.o, if_neg H4.o] <;> rfl, HB⟩
    case rest =>
      obtain ⟨rfl, hb⟩ := hcut
      have HR4 := hq (HR3.o.grow hb.o)
      have HF4 := hq (HF3.o.trans (Fr.of_below _ hb.o))
      have HX4 := hq (HX3.o.grow hb.o)
      clear HTW HTW2 hb HR3 HF3 HX3
      generalize wc = W4 at *
      by_cases hk0 : kindM kk = 0
      · have HV0 := hq (fun W' => HPB.o (hereAt s L k) 2 W' (HK0.o hk0))
        have hkz : ((kindM kk : Nat) : Int) = 0 := by omega
        rw [hkz]
        have HC := hq (HCW.o _ 2 HR4.o)
        clear HK0 HK1 HPB HPP HCK HCW HKI hk0 hkz
        go_wp2_with fail
        refine HC.o.mono ?_
        rintro e W5 ⟨rfl, hr5, hf5⟩
        have HVV := hq (HV0.o _ hr5 (HF4.o.trans hf5))
        clear HC HV0 hr5 hf5 HR4 HF4 HX4
        go_wp2_with fail
        first | exact HVV.o | (go_ret; exact HVV.o)
      · obtain ⟨hkl, e1, e2, e3⟩ := HK1.o hk0
        have hkz : ¬ ((kindM kk : Nat) : Int) = 0 := by omega
        have hkb : (((kindM kk : Nat) : Int) == 0) = false := beq_eq_false_iff_ne.2 hkz
        cases d with
        | zero =>
          have hv : valueM s.size (keyTx s) 0 (L.drop k) (ka, kb) r.ns = .inl (hereAt s L k, 5) := by rw [e3, e2]; exact valueM_deep (by rw [← e1]; exact hk0)
          have HV0 := hq (fun W' => HPB.o (hereAt s L k) 5 W' hv)
          have hlz2 : (32 : Int) < (Lv : Int) := by omega
          have HC := hq (HCW.o _ 5 HR4.o)
          clear HK0 HK1 HPB HPP HCK HCW HKI hk0 e1 e2 e3 hv
          generalize ((kindM kk : Nat) : Int) = kz at *
          go_wp2_with fail
          refine HC.o.mono ?_
          rintro e W5 ⟨rfl, hr5, hf5⟩
          have HVV := hq (HV0.o _ hr5 (HF4.o.trans hf5))
          clear HC HV0 hr5 hf5 HR4 HF4 HX4
          go_wp2_with fail
          first | exact HVV.o | (go_ret; exact HVV.o)
        | succ d =>
          have hlz2 : ¬ (32 : Int) < (Lv : Int) := by omega
          obtain ⟨_, cT, na, nc, eL, hnv, c0, c1, c2, c3, _, _, cf⟩ := HR4.o.cells
          by_cases hfull : r.nv.length = 4096
          · have hv : valueM s.size (keyTx s) (d + 1) (L.drop k) (ka, kb) r.ns = .inl (hereAt s L k, 6) := by rw [e3, e2]; exact valueM_many (by rw [← e1]; exact hk0) (by rw [RS.ns_len]; exact hfull)
            have HV0 := hq (fun W' => HPB.o (hereAt s L k) 6 W' hv)
            have hfz : (4096 : Int) ≤ ((r.nv.length : Nat) : Int) := by omega
            have HC := hq (HCW.o _ 6 HR4.o)
            clear HK0 HK1 HPB HPP HCK HCW HKI hk0 e1 e2 e3 hv hfull hnv eL
            generalize ((kindM kk : Nat) : Int) = kz at *
            go_wp2_with fail
            refine HC.o.mono ?_
            rintro e W5 ⟨rfl, hr5, hf5⟩
            have HVV := hq (HV0.o _ hr5 (HF4.o.trans hf5))
            clear HC HV0 hr5 hf5 HR4 HF4 HX4
            go_wp2_with fail
            first | exact HVV.o | (go_ret; exact HVV.o)
          · have hn4 := HR4.o.n4
            have hfz : ¬ (4096 : Int) ≤ ((r.nv.length : Nat) : Int) := by omega
            obtain ⟨gT, cT2, eL2, t0, t1, t2⟩ := HR4.o.tok hkl
            have HTV := hq eL2
            have eLL := eL.symm.trans eL2
            cases eLL
            have hkli : (k : Int) < (L.length : Int) := by omega
            have HVS : Hq (valueM s.size (keyTx s) (d + 1) (L.drop k) (ka, kb) r.ns = if kindM kk = 5 then listM (valueM s.size (keyTx s) d) false s.size (keyTx s) r.ns.length (L.drop (k + 1)) (r.ns ++ [leafN L[k] (ka, kb)]) else if kindM kk = 6 then listM (valueM s.size (keyTx s) d) true s.size (keyTx s) r.ns.length (L.drop (k + 1)) (r.ns ++ [leafN L[k] (ka, kb)]) else .inr (L.drop (k + 1), r.ns ++ [leafN L[k] (ka, kb)])) := hq (by
              rw [e3]
              conv => lhs; unfold valueM
              rw [← e1, if_neg hk0, if_neg (by rw [RS.ns_len]; exact hfull)])
            have HTK := hq (show L[k]? = some L[k] from List.getElem?_eq_getElem hkl)
            have hkd : kindM L[k].1 = kindM kk := by rw [e1]
            clear HK0 HK1 HPB HCK HCW hk0 e1 e2 e3 eL eL2 t0
            generalize L[k] = t at *
            obtain ⟨kd, ta, tb⟩ := t
            simp only at t1 t2 hkd
            have x0 := HX4.o.at_ 0
            have x1 := HX4.o.at_ 1
            have hb5 := (below_alloc W4 (.cells #[.int .i64 (kindM kk : Int), .int .i64 (ta : Int), .int .i64 (tb : Int), .int .i64 (ka : Int), .int .i64 (kb : Int), .slice none 0 0, .slice none 0 0] 53)).drew
            have HBL5 := hq hb5
            have HR5 := hq (HR4.o.grow hb5)
            have e2a := ((below_alloc W4 (.cells #[.int .i64 (kindM kk : Int), .int .i64 (ta : Int), .int .i64 (tb : Int), .int .i64 (ka : Int), .int .i64 (kb : Int), .slice none 0 0, .slice none 0 0] 53)).cell (cell_blk' c3)).trans c3
            have HND := hq hnv
            have HNR := hq HR5.o.nd
            rw [HND.o] at HNR
            have hwx : w0.heap.size ≤ W4.heap.size := HR4.o.bl.size
            have hlt4 : r.nv.length < 4096 := by omega
            have HBK := hq HR5.o.blk
            have HNG := hq HR5.o.ng
            rw [HND.o] at HBK HNG
            have HNT : Hq ((Value.slice na r.nv.length nc).ownBlock ≠ some gT) := hq (fun e => by
              have h1 := own_apart HR5.o.nd HR5.o.tk (by decide) gT (by rw [HND.o]; exact e)
              exact h1 (by rw [HTV.o]; rfl))
            have HNX : Hq ((Value.slice na r.nv.length nc).ownBlock ≠ some W.heap.size) := hq (fun e => whole_apart HR4.o.nd HX4.o (by decide) (by rw [HND.o]; exact e))
            have HGT : Hq (g ≠ gT) := hq (fun e => HR4.o.tg (by rw [HTV.o, e]; rfl))
            have HGK : Hq (g ≠ W.heap.size) := hq (Nat.ne_of_lt HGL.o)
            generalize hbK : W.heap.size = bK at *
            clear hbK
            obtain ⟨i1, hi1, hy0, hy1, hy2⟩ := info_parts infoNd
            have HKD := hq hkd
            clear hb5 hnv hkd hfull
            generalize hkz0 : ((kindM kk : Nat) : Int) = kz at *
            go_upto_region 13 with fail
            have HS5 := hq (six_grow (And.intro c1 (And.intro c2 (And.intro t1 (And.intro t2 (And.intro x0 x1))))) (below_alloc W4 (.cells #[.int .i64 kz, .int .i64 (ta : Int), .int .i64 (tb : Int), .int .i64 (ka : Int), .int .i64 (kb : Int), .slice none 0 0, .slice none 0 0] 53)))
            rw [show (Op.load 23 (.tmp 43)) = opQ (Op.load 23 (.tmp 43)) from rfl]
            have hld : opQ (Op.load 23 (.tmp 43)) = Op.load 23 (.tmp 43) := rfl
            go_region_held3 (fun W => W.cell? ⟨g, 1, none⟩ = some (.slice (some ⟨gT, 0, none⟩) L.length cT) ∧ W.cell? ⟨g, 2, none⟩ = some (.int .i64 (k : Int)) ∧ W.cell? ⟨gT, k * 3 + 1, none⟩ = some (.int .i64 (ta : Int)) ∧ W.cell? ⟨gT, k * 3 + 2, none⟩ = some (.int .i64 (tb : Int)) ∧ W.cell? ⟨bK, 0, none⟩ = some (.int .i64 (ka : Int)) ∧ W.cell? ⟨bK, 1, none⟩ = some (.int .i64 (kb : Int)))
              (first | exact ⟨c1, c2, t1, t2, x0, x1⟩ | exact HS5.o | exact hT6 | exact six_put hT6 HGT.o HGK.o (by decide) (by decide) _)
              ((refine step_at rfl (.tmp 44) (.tmp 59) 23 rfl w0.heap.size 53 i1 (.agg #[.int .i64 0, .int .i64 0, .int .i64 0, .int .i64 0, .int .i64 0, .slice none 0 0, .slice none 0 0]) 7 88 Tryd.underlying23 hi1 hy0 hy1 hy2 rfl (by decide) (.slice na r.nv.length nc) r.nv.length (nodeCells r.nv) (by simp [Act.eval]) HNR.o ⟨W4.heap.size, 0, none⟩ 1 1 [.int .i64 kz, .int .i64 (ta : Int), .int .i64 (tb : Int), .int .i64 (ka : Int), .int .i64 (kb : Int), .slice none 0 0, .slice none 0 0] (by simp [Act.eval]) rfl (cells_of_new W4 [.int .i64 kz, .int .i64 (ta : Int), .int .i64 (tb : Int), .int .i64 (ka : Int), .int .i64 (kb : Int), .slice none 0 0, .slice none 0 0] _) (by simp [Value.oneCell']) (by unfold maxLen; omega) (by omega) (by show w0.heap.size ≤ (W4.alloc _).heap.size; rw [World.size_alloc]; omega) ?_; intro v' W6 hown6 hgrow6 hat6; obtain ⟨g6, c6, rfl⟩ := row_shape1 hown6; have HWK := hq (whole_kept HBK.o hgrow6 (fun b e hb => HNG.o (by rw [e, hb]))); have f2 := HWK.o.at_ 3; have ff := HWK.o.free; have hT6 := six_grown (by exact HS5.o) hgrow6 HNG.o HNG.o HNT.o HNT.o HNX.o HNX.o))
            all_goals
              have happ := HR5.o.app (n := leafN (kd, ta, tb) (ka, kb)) (v' := .slice (some ⟨g6, 0, none⟩) (r.nv.length + 1) c6) (W' := W6) rfl rfl hlt4 (by
                have e1 : nodeC (newN (leafN (kd, ta, tb) (ka, kb))) = [.int .i64 kz, .int .i64 (ta : Int), .int .i64 (tb : Int), .int .i64 (ka : Int), .int .i64 (kb : Int), .slice none 0 0, .slice none 0 0] := by rw [← hkz0, ← HKD.o]; rfl
                rw [nodeCells_snoc, e1]
                exact hown6) (by show World.grownBy _ W6 r.vN.ownBlock; rw [HND.o]; exact hgrow6) (by show _ = r.vN.ownBlock ∨ _; rw [HND.o]; exact hat6)
              obtain ⟨r7, HR7, HF7, hns7, hl7⟩ : ∃ r7 : RS, Hq (Pd w0 g s L vL k r7 (W6.setCell ⟨g, 3, none⟩ (.slice (some ⟨g6, 0, none⟩) (r.nv.length + 1) c6))) ∧ Hq (Fr (r.own g) (r7.own g) W (W6.setCell ⟨g, 3, none⟩ (.slice (some ⟨g6, 0, none⟩) (r.nv.length + 1) c6))) ∧ Hq (r7.ns = r.ns ++ [leafN (kd, ta, tb) (ka, kb)]) ∧ r7.nv.length = r.nv.length + 1 :=
                ⟨_, hq happ.1, hq ((HF4.o.trans (Fr.of_below _ HBL5.o)).trans happ.2), hq (app_ns _ _ _), by unfold RS.app; simp⟩
              clear happ hown6 hgrow6 hat6 HWK f2 ff HR5 HNR HBK HNG HBL5 HR4 HF4 HX4 x0 x1 c0 c1 c2 c3 t1 t2 cf e2a hT6 HS5 HNT HNX HGK
              go_simp
              generalize W6.setCell ⟨g, 3, none⟩ (.slice (some ⟨g6, 0, none⟩) (r.nv.length + 1) c6) = W7 at *
              obtain ⟨_, _, _, _, _, _, _, _, c2, _, _, _, cf⟩ := HR7.o.cells
              have HSTP := hq (HR7.o.step (k1 := k + 1) (by omega))
              have HFS := hq (HF7.o.trans (HR7.o.stepF (.int .i64 ((k + 1 : Nat) : Int))))
              have e5 : ((k + 1 : Nat) : Int) = (k : Int) + 1 := by omega
              rw [e5] at HSTP HFS
              have hkl9 := HR7.o.tl9
              unfold maxLen at hkl9
              clear e5 HR7 HF7
              go_upto_region 16 with fail
              by_cases h5 : kindM kk = 5
              · have HSEL : Hq ((if kindM kk = 5 then listM (valueM s.size (keyTx s) d) false s.size (keyTx s) r.ns.length (L.drop (k + 1)) (r.ns ++ [leafN (kd, ta, tb) (ka, kb)]) else if kindM kk = 6 then listM (valueM s.size (keyTx s) d) true s.size (keyTx s) r.ns.length (L.drop (k + 1)) (r.ns ++ [leafN (kd, ta, tb) (ka, kb)]) else .inr (L.drop (k + 1), r.ns ++ [leafN (kd, ta, tb) (ka, kb)])) = listM (valueM s.size (keyTx s) d) false s.size (keyTx s) r.ns.length (L.drop (k + 1)) (r.ns ++ [leafN (kd, ta, tb) (ka, kb)])) := hq (if_pos h5)
                have HC := hq (HKI d rfl false r.nv.length (k + 1) r7 _ HSTP.o (by omega) (by omega) (fun t ht => by
                  rw [Nat.add_sub_cancel, HTK.o] at ht
                  rw [← Option.some.inj ht, hns7.o, ← RS.ns_len]
                  exact toN_leaf _ _ _))
                rw [show ((jendM false : Nat) : Int) = 5 from rfl] at HC
                unfold PKidsPost at HC
                have hk5 : (kz == 5) = true := by rw [beq_iff_eq]; omega
                have hk6 : (kz == 6) = false := by rw [beq_eq_false_iff_ne]; omega
                clear HSTP
                cases hlm : listM (valueM s.size (keyTx s) d) false s.size (keyTx s) r.nv.length (L.drop (k + 1)) r7.ns with
                | inl p =>
                  obtain ⟨wh, er⟩ := p
                  rw [hlm] at HC
                  have hv : valueM s.size (keyTx s) (d + 1) (L.drop k) (ka, kb) r.ns = .inl (wh, er) := (HVS.o.trans HSEL.o).trans (by rw [← hns7.o, RS.ns_len]; exact hlm)
                  clear hlm HVS HSEL
                  go_wp2_with fail
                  refine HC.o.mono ?_
                  rintro e W9 ⟨rfl, k', r', h1, h2, h3, h4⟩
                  have HVV : Hq (PP (.returned (.bool false)) W9) := hq (by
                    rw [HPP.o]; unfold PValPost; rw [hv]; exact ⟨rfl, k', r', h1, HFS.o.trans h2, h3, h4⟩)
                  clear h1 h2 h3 h4 hv HPP HC
                  go_wp2_with fail
                  first | exact HVV.o | (go_ret; exact HVV.o)
                | inr p =>
                  obtain ⟨l, ns'⟩ := p
                  rw [hlm] at HC
                  have hv : valueM s.size (keyTx s) (d + 1) (L.drop k) (ka, kb) r.ns = .inr (l, ns') := (HVS.o.trans HSEL.o).trans (by rw [← hns7.o, RS.ns_len]; exact hlm)
                  clear hlm HVS HSEL
                  go_wp2_with fail
                  refine HC.o.mono ?_
                  rintro e W9 ⟨rfl, k', r', t', h1, h2, h3, h4, h5', h6, h7⟩
                  have HFa := HFS.o.trans h2
                  clear h2 HC
                  obtain ⟨q, hkq⟩ : ∃ q, k' = q + 1 := ⟨k' - 1, by omega⟩
                  rw [hkq, Nat.add_sub_cancel] at h6
                  have hqL : q < L.length := (List.getElem?_eq_some_iff.1 h6).1
                  have hqt : L[q] = t' := (List.getElem?_eq_some_iff.1 h6).2
                  obtain ⟨gU, cU, eU, _, _, u2⟩ := h1.tok hqL
                  rw [hqt] at u2
                  obtain ⟨_, cV, _, cM, eV, eN, _, d1, d2, d3, _, _, _⟩ := h1.cells
                  have eUV := eV.symm.trans eU
                  cases eUV
                  obtain ⟨gN, cN, hvN, hcN, hmN, hfN, hnode⟩ := h1.node h4
                  have n2 := hnode 2 (by omega)
                  simp only [nodeC, List.getElem?_cons_succ, List.getElem?_cons_zero] at n2
                  have eNN := eN.symm.trans hvN
                  cases eNN
                  have hcl := (h1.grow (Below.refl W9.heap.size W9).drew).close h4 hvN t'.2.2
                  have HVV : Hq (PP (.returned (.bool true)) (W9.drew.setCell ⟨gN, r.nv.length * 7 + 2, none⟩ (.int .i64 (t'.2.2 : Int)))) := hq (by
                    rw [HPP.o]
                    unfold PValPost
                    rw [hv]
                    exact ⟨rfl, k', _, hcl.1, (HFa.trans (Fr.of_below _ (Below.refl W9.heap.size W9).drew)).trans hcl.2, h3, (close_ns r' h4 t'.2.2).trans h7⟩)
                  have hL9 := h1.tl9
                  unfold maxLen at hL9
                  have htm := h1.tm
                  have ec : IntKind.i64.wrap ((k' : Int) - 1) = (q : Int) := by rw [IntWalk.i64_in _ (by omega)]; omega
                  have hne1 : gN ≠ g := fun e => h1.ng (by rw [hvN, e]; rfl)
                  have hne2 : gN ≠ gU := fun e => own_apart h1.nd h1.tk (by decide) gN (by rw [hvN]; rfl) (by rw [eU, e]; rfl)
                  have hnz : (r.nv.length : Int) < (r'.nv.length : Int) := by omega
                  have hqz : (q : Int) < (L.length : Int) := by omega
                  clear hcl hkq hv h1 h3 h7 h6 hqt hnode HFa HPP eN eV hvN eU hcN hmN
                  go_upto_region 21 with fail
                  go_region_held3 (fun W => W.cell? ⟨g, 1, none⟩ = some (.slice (some ⟨gU, 0, none⟩) L.length cU) ∧ W.cell? ⟨g, 2, none⟩ = some (.int .i64 (k' : Int)) ∧ W.cell? ⟨g, 3, none⟩ = some (.slice (some ⟨gN, 0, none⟩) r'.nv.length cM) ∧ W.cell? ⟨gU, q * 3 + 2, none⟩ = some (.int .i64 (t'.2.2 : Int)))
                    (first | exact ⟨d1, d2, d3, u2⟩ | exact four_put ⟨d1, d2, d3, u2⟩ hne1 hne2 _)
                    (fail)
                  go_wp2_with fail
                  first | exact HVV.o | (go_ret; exact HVV.o)
              · by_cases h6k : kindM kk = 6
                · have HSEL : Hq ((if kindM kk = 5 then listM (valueM s.size (keyTx s) d) false s.size (keyTx s) r.ns.length (L.drop (k + 1)) (r.ns ++ [leafN (kd, ta, tb) (ka, kb)]) else if kindM kk = 6 then listM (valueM s.size (keyTx s) d) true s.size (keyTx s) r.ns.length (L.drop (k + 1)) (r.ns ++ [leafN (kd, ta, tb) (ka, kb)]) else .inr (L.drop (k + 1), r.ns ++ [leafN (kd, ta, tb) (ka, kb)])) = listM (valueM s.size (keyTx s) d) true s.size (keyTx s) r.ns.length (L.drop (k + 1)) (r.ns ++ [leafN (kd, ta, tb) (ka, kb)])) := hq ((if_neg h5).trans (if_pos h6k))
                  have HC := hq (HKI d rfl true r.nv.length (k + 1) r7 _ HSTP.o (by omega) (by omega) (fun t ht => by
                    rw [Nat.add_sub_cancel, HTK.o] at ht
                    rw [← Option.some.inj ht, hns7.o, ← RS.ns_len]
                    exact toN_leaf _ _ _))
                  rw [show ((jendM true : Nat) : Int) = 3 from rfl] at HC
                  unfold PKidsPost at HC
                  have hk5 : (kz == 5) = false := by rw [beq_eq_false_iff_ne]; omega
                  have hk6 : (kz == 6) = true := by rw [beq_iff_eq]; omega
                  clear HSTP
                  cases hlm : listM (valueM s.size (keyTx s) d) true s.size (keyTx s) r.nv.length (L.drop (k + 1)) r7.ns with
                  | inl p =>
                    obtain ⟨wh, er⟩ := p
                    rw [hlm] at HC
                    have hv : valueM s.size (keyTx s) (d + 1) (L.drop k) (ka, kb) r.ns = .inl (wh, er) := (HVS.o.trans HSEL.o).trans (by rw [← hns7.o, RS.ns_len]; exact hlm)
                    clear hlm HVS HSEL
                    go_wp2_with fail
                    refine HC.o.mono ?_
                    rintro e W9 ⟨rfl, k', r', h1, h2, h3, h4⟩
                    have HVV : Hq (PP (.returned (.bool false)) W9) := hq (by
                      rw [HPP.o]; unfold PValPost; rw [hv]; exact ⟨rfl, k', r', h1, HFS.o.trans h2, h3, h4⟩)
                    clear h1 h2 h3 h4 hv HPP HC
                    go_wp2_with fail
                    first | exact HVV.o | (go_ret; exact HVV.o)
                  | inr p =>
                    obtain ⟨l, ns'⟩ := p
                    rw [hlm] at HC
                    have hv : valueM s.size (keyTx s) (d + 1) (L.drop k) (ka, kb) r.ns = .inr (l, ns') := (HVS.o.trans HSEL.o).trans (by rw [← hns7.o, RS.ns_len]; exact hlm)
                    clear hlm HVS HSEL
                    go_wp2_with fail
                    refine HC.o.mono ?_
                    rintro e W9 ⟨rfl, k', r', t', h1, h2, h3, h4, h5', h6, h7⟩
                    have HFa := HFS.o.trans h2
                    clear h2 HC
                    obtain ⟨q, hkq⟩ : ∃ q, k' = q + 1 := ⟨k' - 1, by omega⟩
                    rw [hkq, Nat.add_sub_cancel] at h6
                    have hqL : q < L.length := (List.getElem?_eq_some_iff.1 h6).1
                    have hqt : L[q] = t' := (List.getElem?_eq_some_iff.1 h6).2
                    obtain ⟨gU, cU, eU, _, _, u2⟩ := h1.tok hqL
                    rw [hqt] at u2
                    obtain ⟨_, cV, _, cM, eV, eN, _, d1, d2, d3, _, _, _⟩ := h1.cells
                    have eUV := eV.symm.trans eU
                    cases eUV
                    obtain ⟨gN, cN, hvN, hcN, hmN, hfN, hnode⟩ := h1.node h4
                    have n2 := hnode 2 (by omega)
                    simp only [nodeC, List.getElem?_cons_succ, List.getElem?_cons_zero] at n2
                    have eNN := eN.symm.trans hvN
                    cases eNN
                    have hcl := (h1.grow (Below.refl W9.heap.size W9).drew).close h4 hvN t'.2.2
                    have HVV : Hq (PP (.returned (.bool true)) (W9.drew.setCell ⟨gN, r.nv.length * 7 + 2, none⟩ (.int .i64 (t'.2.2 : Int)))) := hq (by
                      rw [HPP.o]
                      unfold PValPost
                      rw [hv]
                      exact ⟨rfl, k', _, hcl.1, (HFa.trans (Fr.of_below _ (Below.refl W9.heap.size W9).drew)).trans hcl.2, h3, (close_ns r' h4 t'.2.2).trans h7⟩)
                    have hL9 := h1.tl9
                    unfold maxLen at hL9
                    have htm := h1.tm
                    have ec : IntKind.i64.wrap ((k' : Int) - 1) = (q : Int) := by rw [IntWalk.i64_in _ (by omega)]; omega
                    have hne1 : gN ≠ g := fun e => h1.ng (by rw [hvN, e]; rfl)
                    have hne2 : gN ≠ gU := fun e => own_apart h1.nd h1.tk (by decide) gN (by rw [hvN]; rfl) (by rw [eU, e]; rfl)
                    have hnz : (r.nv.length : Int) < (r'.nv.length : Int) := by omega
                    have hqz : (q : Int) < (L.length : Int) := by omega
                    clear hcl hkq hv h1 h3 h7 h6 hqt hnode HFa HPP eN eV hvN eU hcN hmN
                    go_upto_region 21 with fail
                    go_region_held3 (fun W => W.cell? ⟨g, 1, none⟩ = some (.slice (some ⟨gU, 0, none⟩) L.length cU) ∧ W.cell? ⟨g, 2, none⟩ = some (.int .i64 (k' : Int)) ∧ W.cell? ⟨g, 3, none⟩ = some (.slice (some ⟨gN, 0, none⟩) r'.nv.length cM) ∧ W.cell? ⟨gU, q * 3 + 2, none⟩ = some (.int .i64 (t'.2.2 : Int)))
                      (first | exact ⟨d1, d2, d3, u2⟩ | exact four_put ⟨d1, d2, d3, u2⟩ hne1 hne2 _)
                      (fail)
                    go_wp2_with fail
                    first | exact HVV.o | (go_ret; exact HVV.o)
                · have hv := (HVS.o.trans ((if_neg h5).trans (if_neg h6k)))
                  have hk5 : (kz == 5) = false := by rw [beq_eq_false_iff_ne]; omega
                  have hk6 : (kz == 6) = false := by rw [beq_eq_false_iff_ne]; omega
                  have e5 : ((k + 1 : Nat) : Int) = (k : Int) + 1 := by omega
                  rw [← e5] at HSTP HFS ⊢
                  generalize W7.setCell ⟨g, 2, none⟩ (.int .i64 ((k + 1 : Nat) : Int)) = W9 at *
                  have h1 := HSTP.o
                  have HFa := HFS.o
                  have h4 : r.nv.length < r7.nv.length := by omega
                  have h3 : L.drop (k + 1) = L.drop (k + 1) := rfl
                  have h6 : L[k + 1 - 1]? = some (kd, ta, tb) := by rw [Nat.add_sub_cancel]; exact HTK.o
                  have h5' : 1 ≤ k + 1 := by omega
                  obtain ⟨r', hr'⟩ : ∃ r', r' = r7 := ⟨_, rfl⟩
                  obtain ⟨t', ht'⟩ : ∃ t' : Tok, t' = (kd, ta, tb) := ⟨_, rfl⟩
                  obtain ⟨k', hk'⟩ : ∃ k', k' = k + 1 := ⟨_, rfl⟩
                  have h7 : closeN r'.ns r.nv.length t'.2.2 = r.ns ++ [leafN (kd, ta, tb) (ka, kb)] := by rw [ht', hr', hns7.o, ← RS.ns_len]; exact close_leaf _ (kd, ta, tb) _
                  rw [← hr'] at h1 h4 HFa
                  rw [← ht'] at h6
                  rw [← hk'] at h1 h3 h6 h5' hv
                  clear ht' HSTP HFS e5 HVS hr' hk' c2 HTK hns7
                  obtain ⟨q, hkq⟩ : ∃ q, k' = q + 1 := ⟨k' - 1, by omega⟩
                  rw [hkq, Nat.add_sub_cancel] at h6
                  have hqL : q < L.length := (List.getElem?_eq_some_iff.1 h6).1
                  have hqt : L[q] = t' := (List.getElem?_eq_some_iff.1 h6).2
                  obtain ⟨gU, cU, eU, _, _, u2⟩ := h1.tok hqL
                  rw [hqt] at u2
                  obtain ⟨_, cV, _, cM, eV, eN, _, d1, d2, d3, _, _, _⟩ := h1.cells
                  have eUV := eV.symm.trans eU
                  cases eUV
                  obtain ⟨gN, cN, hvN, hcN, hmN, hfN, hnode⟩ := h1.node h4
                  have n2 := hnode 2 (by omega)
                  simp only [nodeC, List.getElem?_cons_succ, List.getElem?_cons_zero] at n2
                  have eNN := eN.symm.trans hvN
                  cases eNN
                  have hcl := (h1.grow (Below.refl W9.heap.size W9).drew).close h4 hvN t'.2.2
                  have HVV : Hq (PP (.returned (.bool true)) (W9.drew.setCell ⟨gN, r.nv.length * 7 + 2, none⟩ (.int .i64 (t'.2.2 : Int)))) := hq (by
                    rw [HPP.o]
                    unfold PValPost
                    rw [hv]
                    exact ⟨rfl, k', _, hcl.1, (HFa.trans (Fr.of_below _ (Below.refl W9.heap.size W9).drew)).trans hcl.2, h3, (close_ns r' h4 t'.2.2).trans h7⟩)
                  have hL9 := h1.tl9
                  unfold maxLen at hL9
                  have htm := h1.tm
                  have ec : IntKind.i64.wrap ((k' : Int) - 1) = (q : Int) := by rw [IntWalk.i64_in _ (by omega)]; omega
                  have hne1 : gN ≠ g := fun e => h1.ng (by rw [hvN, e]; rfl)
                  have hne2 : gN ≠ gU := fun e => own_apart h1.nd h1.tk (by decide) gN (by rw [hvN]; rfl) (by rw [eU, e]; rfl)
                  have hnz : (r.nv.length : Int) < (r'.nv.length : Int) := by omega
                  have hqz : (q : Int) < (L.length : Int) := by omega
                  clear hcl hkq hv h1 h3 h7 h6 hqt hnode HFa HPP eN eV hvN eU hcN hmN
                  go_upto_region 21 with fail
                  go_region_held3 (fun W => W.cell? ⟨g, 1, none⟩ = some (.slice (some ⟨gU, 0, none⟩) L.length cU) ∧ W.cell? ⟨g, 2, none⟩ = some (.int .i64 (k' : Int)) ∧ W.cell? ⟨g, 3, none⟩ = some (.slice (some ⟨gN, 0, none⟩) r'.nv.length cM) ∧ W.cell? ⟨gU, q * 3 + 2, none⟩ = some (.int .i64 (t'.2.2 : Int)))
                    (first | exact ⟨d1, d2, d3, u2⟩ | exact four_put ⟨d1, d2, d3, u2⟩ hne1 hne2 _)
                    (fail)
                  go_wp2_with fail
                  first | exact HVV.o | (go_ret; exact HVV.o)
end Go.Proofs.YtmomildkopainaaDoor
