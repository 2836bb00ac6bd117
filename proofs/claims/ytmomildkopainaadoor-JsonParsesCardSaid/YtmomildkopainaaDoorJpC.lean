/-
  WALKS: the document's parser: key.
-/
import Derived.Test.YtmomildkopainaaDoorJpB
import Derived.Test.YtmomildkopainaaDoorRUnqK
import Derived.Deep.RegionWith
import Derived.Deep.RegionHeld3
import Derived.Deep.CutRange
import Derived.Deep.LoopGhost
namespace Go.Proofs.YtmomildkopainaaDoor
open Go.RowKit

def keyM (z : Nat) (tx : Nat → Nat → Bs) (had : List Bs) (l : List Tok) : JErr ⊕ (Tok × List Tok) := match takeM z 8 8 l with
  | .inl e => .inl e
  | .inr (t, r) => if tx t.2.1 t.2.2 ∈ had then .inl (t.2.1, 7) else match takeM z 7 7 r with
    | .inl e => .inl e
    | .inr (_, r2) => .inr (t, r2)
theorem kidM_keyM {v : List Tok → Nat × Nat → List JN → JRes} {z : Nat} {tx : Nat → Nat → Bs} {had : List Bs} {l : List Tok} {ns : List JN} : kidM v true z tx had l ns = match keyM z tx had l with
    | .inl e => .inl e
    | .inr (t, r2) => match v r2 (t.2.1, t.2.2) ns with
      | .inl e => .inl e
      | .inr (l', ns') => .inr (had ++ [tx t.2.1 t.2.2], l', ns') := by
  unfold kidM keyM
  rw [if_pos rfl]
  cases takeM z 8 8 l with
  | inl e => rfl
  | inr p =>
    obtain ⟨t, r⟩ := p
    simp only
    by_cases h : tx t.2.1 t.2.2 ∈ had
    · simp only [if_pos h]
    · simp only [if_neg h]
      cases takeM z 7 7 r with
      | inl e => rfl
      | inr p => rfl
/-- the next token, by its number -/
theorem takeM_at (s : ByteArray) (L : List Tok) (k a b : Nat) (ha : 0 < a) (hb : 0 < b) :
    (kindAt L k = a ∨ kindAt L k = b) ∧ (∃ h : k < L.length, takeM s.size a b (L.drop k) = .inr (L[k], L.drop (k + 1))) ∨ (kindAt L k ≠ a ∧ kindAt L k ≠ b) ∧ takeM s.size a b (L.drop k) = .inl (hereAt s L k, 2) := by
  rcases Nat.lt_or_ge k L.length with h | h
  · have e1 : kindAt L k = L[k].1 := by unfold kindAt; rw [List.getElem?_eq_getElem h]; rfl
    have e2 : hereAt s L k = L[k].2.1 := by unfold hereAt; rw [List.getElem?_eq_getElem h]; rfl
    rw [e1, e2, List.drop_eq_getElem_cons h]
    by_cases hc : L[k].1 = a ∨ L[k].1 = b
    · refine .inl ⟨hc, h, ?_⟩
      unfold takeM
      simp only
      rw [if_neg (by omega)]
    · refine .inr ⟨by omega, ?_⟩
      unfold takeM
      simp only
      rw [if_pos (by omega)]
  · have e1 : kindAt L k = 0 := by unfold kindAt; rw [List.getElem?_eq_none h]; rfl
    have e2 : hereAt s L k = s.size := by unfold hereAt; rw [List.getElem?_eq_none h]; rfl
    rw [e1, e2, List.drop_eq_nil_of_le h]
    exact .inr ⟨by omega, rfl⟩
def keyV (tx : ByteArray) (a b : Int) (ok : Bool) : Value := .tuple #[.string tx, .agg #[.int .i64 a, .int .i64 b], .bool ok]
def PKeyPost (w0 : World) (g : Nat) (s : ByteArray) (L : List Tok) (vL : Value) (k : Nat) (r : RS) (had : List Bs) (W : World) (e : Ending) (W' : World) : Prop :=
  match keyM s.size (keyTx s) had (L.drop k) with
  | .inl (wh, er) => (∃ tx a b, e = .returned (keyV tx a b false)) ∧ (∃ k', Pd w0 g s L vL k' (r.bad (wh : Int) er) W') ∧ Fr (r.own g) (r.own g) W W'
  | .inr (t, l) => e = .returned (keyV (st (keyTx s t.2.1 t.2.2)) (t.2.1 : Int) (t.2.2 : Int) true) ∧ (∃ k', Pd w0 g s L vL k' r W' ∧ L.drop k' = l) ∧ Fr (r.own g) (r.own g) W W'
def strC (had : List Bs) : List Value := had.map fun b => .string (st b)
section
variable {w0 W : World} {g : Nat} {s : ByteArray} {L : List Tok} {vL : Value} {k : Nat} {r : RS}
theorem read_three {W9 wr W : World} {p0 p1 p2 : Addr} {v0 v1 v2 : Value} (hT : Below wr.heap.size wr W ∧ W.cell? p0 = some v0 ∧ W.cell? p1 = some v1 ∧ W.cell? p2 = some v2) (hb : Below W.heap.size W W9) : Below wr.heap.size wr W9 ∧ W9.cell? p0 = some v0 ∧ W9.cell? p1 = some v1 ∧ W9.cell? p2 = some v2 :=
  ⟨below_trans hT.1 hb, (hb.cell (cell_blk' hT.2.1)).trans hT.2.1, (hb.cell (cell_blk' hT.2.2.1)).trans hT.2.2.1, (hb.cell (cell_blk' hT.2.2.2)).trans hT.2.2.2⟩
/-- a block that is none of the parser's is written -/
theorem Pd.far (h : Pd w0 g s L vL k r W) {p : Addr} (hp : ¬ r.own g p.block) (hv : vL.ownBlock ≠ some p.block) (hb : w0.heap.size ≤ p.block) (u : Value) : Pd w0 g s L vL k r (W.setCell p u) := by
  have hg := set_grown W p u
  refine ⟨h.blk.far (fun e => hp (.inl e.symm)) u, row_kept h.tk hg fun b e e2 => by cases e; exact hv e2, h.tl, h.tm, ?_, ?_, ?_, h.ak, h.ap, h.bl.setCell hb u, h.gl, h.n4, h.kl⟩
  · exact row_kept h.nd hg fun b e e2 => by cases e; exact hp (.inr (.inl e2))
  · exact fun i hi => row_kept (h.kr i hi) hg fun b e e2 => by cases e; exact hp (.inr (.inr ⟨i, hi, .inl e2⟩))
  · exact fun i hi => row_kept (h.pr i hi) hg fun b e e2 => by cases e; exact hp (.inr (.inr ⟨i, hi, .inr e2⟩))
theorem Pd.far2 (h : Pd w0 g s L vL k r W) {b : Nat} (hp : ¬ r.own g b) (hv : vL.ownBlock ≠ some b) (hb : w0.heap.size ≤ b) (u0 u1 : Value) : Pd w0 g s L vL k r (set2 W b u0 u1) :=
  (h.far (p := ⟨b, 0, none⟩) hp hv hb u0).far (p := ⟨b, 1, none⟩) hp hv hb u1
theorem Fr.new2 {o o' : Nat → Prop} {W W' : World} (h : Fr o o' W W') {b : Nat} (hp : W.heap.size ≤ b) (u0 u1 : Value) : Fr o o' W (set2 W' b u0 u1) := (h.new (p := ⟨b, 0, none⟩) hp u0).new (p := ⟨b, 1, none⟩) hp u1
end
set_option maxHeartbeats 4000000 in
set_option maxRecDepth 1000000 in
theorem pkey_any {w0 W : World} {g : Nat} {s : ByteArray} {L : List Tok} {vL : Value} {k : Nat} {r : RS} (h : Pd w0 g s L vL k r W) {B : Nat} {vH : Value} {had : List Bs} (hH : W.ownsRow B 9 1 vH had.length (strC had)) (hs : s.size ≤ 65536) (hl : had.length ≤ 4096) :
    Calls Tryd.prog 73 #[.pointer (some ⟨g, 0, none⟩), vH] W (PKeyPost w0 g s L vL k r had W) := by
  obtain ⟨ha, hc, rfl⟩ := row_shape hH
  have hb0 := below_alloc W (.cells #[.int .i64 0, .int .i64 0] 49)
  have hb00 := hb0
  have HR1 := hq (h.grow hb0)
  have hol := h.own_lt
  have HL1 : Hq (Lo (r.own g) (W.alloc (.cells #[.int .i64 0, .int .i64 0] 49)) W.heap.size 49 #[.int .i64 0, .int .i64 0]) := hq (Lo.new (fun k hk => (hol k hk).2) _ _)
  have HF1 := hq (Fr.of_below (r.own g) hb0)
  have HVN : Hq (vL.ownBlock ≠ some W.heap.size) := hq (fun e => by have := (h.tk.lt _ e).2; omega)
  have hwl : w0.heap.size ≤ W.heap.size := h.bl.size
  have HPP : Hq (∀ wh er W' tx a b, keyM s.size (keyTx s) had (L.drop k) = .inl (wh, er) → (∃ k', Pd w0 g s L vL k' (r.bad (wh : Int) er) W') → Fr (r.own g) (r.own g) W W' → PKeyPost w0 g s L vL k r had W (.returned (keyV tx a b false)) W') := hq (fun wh er W' tx a b h1 h2 h3 => by
    unfold PKeyPost; rw [h1]; exact ⟨⟨_, _, _, rfl⟩, h2, h3⟩)
  have HPR : Hq (∀ t l W', keyM s.size (keyTx s) had (L.drop k) = .inr (t, l) → (∃ k', Pd w0 g s L vL k' r W' ∧ L.drop k' = l) → Fr (r.own g) (r.own g) W W' → PKeyPost w0 g s L vL k r had W (.returned (keyV (st (keyTx s t.2.1 t.2.2)) (t.2.1 : Int) (t.2.2 : Int) true)) W') := hq (fun t l W' h1 h2 h3 => by
    unfold PKeyPost; rw [h1]; exact ⟨rfl, h2, h3⟩)
  have HKM : Hq (keyM s.size (keyTx s) had (L.drop k) = match takeM s.size 8 8 (L.drop k) with
    | .inl e => .inl e
    | .inr (t, r) => if keyTx s t.2.1 t.2.2 ∈ had then .inl (t.2.1, 7) else match takeM s.size 7 7 r with
      | .inl e => .inl e
      | .inr (_, r2) => .inr (t, r2)) := hq rfl
  obtain ⟨PP, hPP⟩ : ∃ PP, PP = PKeyPost w0 g s L vL k r had W := ⟨_, rfl⟩
  rw [← hPP] at HPP HPR ⊢
  have HTA := hq (takeM_at s L k 8 8 (by omega) (by omega))
  have HCK := hq (pkind_any HR1.o)
  generalize keyM s.size (keyTx s) had (L.drop k) = KM at *
  clear hPP h hb0 hol
  go_enter Tryd.func73, Tryd.ntmps73
  go_wp2_with fail
  refine HCK.o.mono ?_
  rintro e W2 ⟨rfl, hb⟩
  have HR2 := hq (HR1.o.grow hb)
  have HF2 := hq (HF1.o.trans (Fr.of_below _ hb))
  have HL2 := hq (HL1.o.below hb)
  have HB2 : Hq (∀ W9, Below W2.heap.size W2 W9 → Below W.heap.size W W9) := hq (fun W9 h => below_trans (below_trans hb00 hb) h)
  clear hb hb00 HR1 HF1 HL1 HCK
  rcases HTA.o with ⟨hk8, hkl, htk⟩ | ⟨⟨hk8, _⟩, htk⟩
  · have hf : ((kindAt L k : Int) != 8) = false := by rw [bne_eq_false_iff_eq]; omega
    obtain ⟨gT, cT, e3, t0, t1, t2⟩ := HR2.o.tok hkl
    obtain ⟨a, c, na, nc, e1, e2, c0, c1, c2, c3, c4, c5, cf⟩ := HR2.o.cells
    have HVL := hq e1
    rw [e1] at e3
    cases e3
    obtain ⟨hz2, hzs⟩ := HR2.o.tl L[k] (List.getElem_mem hkl)
    have HKM2 : Hq (KM = if keyTx s L[k].2.1 L[k].2.2 ∈ had then .inl (L[k].2.1, 7) else match takeM s.size 7 7 (L.drop (k + 1)) with
      | .inl e => .inl e
      | .inr (_, r2) => .inr (L[k], r2)) := hq (by rw [HKM.o, htk])
    have HHE : Hq (hereAt s L k = L[k].2.1) := hq (by unfold hereAt; rw [List.getElem?_eq_getElem hkl]; rfl)
    clear HKM htk hk8 e1 e2 HTA c3 c4 c5 t0
    generalize L[k] = t at *
    obtain ⟨kd, ta, tb⟩ := t
    simp only at t1 t2 hz2 hzs HKM2 HHE
    have hkz : (k : Int) < (L.length : Int) := by omega
    have HBZ := hq (below_alloc W2 (.cells #[.int .i64 0, .int .i64 0] 49))
    have c1z := (HBZ.o.cell (cell_blk' c1)).trans c1
    have c2z := (HBZ.o.cell (cell_blk' c2)).trans c2
    have t1z := (HBZ.o.cell (cell_blk' t1)).trans t1
    have t2z := (HBZ.o.cell (cell_blk' t2)).trans t2
    generalize kindAt L k = kk at *
    go_wp2_with fail
    go_region
    have hbn : Below W2.heap.size W2 (W2.alloc (.cells #[.int .i64 (ta : Int), .int .i64 (tb : Int)] 49)).drew := (below_alloc W2 (.cells #[.int .i64 (ta : Int), .int .i64 (tb : Int)] 49)).drew
    have HX3 : Hq (Lo (r.own g) (W2.alloc (.cells #[.int .i64 (ta : Int), .int .i64 (tb : Int)] 49)).drew W2.heap.size 49 #[.int .i64 (ta : Int), .int .i64 (tb : Int)]) := hq ((Lo.new (fun k hk => (HR2.o.own_lt k hk).2) _ _).below (Below.refl _ _).drew)
    have HR3 := hq (HR2.o.grow hbn)
    have HL3 := hq (HL2.o.below hbn)
    have HF3 := hq (HF2.o.trans (Fr.of_below _ hbn))
    have HH3 := hq (fun W9 (hb : Below (W2.alloc (.cells #[.int .i64 (ta : Int), .int .i64 (tb : Int)] 49)).drew.heap.size (W2.alloc (.cells #[.int .i64 (ta : Int), .int .i64 (tb : Int)] 49)).drew W9) => HB2.o W9 (below_trans hbn hb))
    clear hbn HBZ c1z c2z t1z t2z c0 c1 c2 t1 t2 HR2 HL2 HF2 HB2
    generalize W2.heap.size = bX at *
    generalize (W2.alloc (.cells #[.int .i64 (ta : Int), .int .i64 (tb : Int)] 49)).drew = W3 at *
    obtain ⟨_, _, _, _, _, _, c0, _⟩ := HR3.o.cells
    have x1 := HX3.o.at_.at_ 0
    have x2 := HX3.o.at_.at_ 1
    have hz1 : (0 : Int) ≤ (ta : Int) := by omega
    have hz2i : (ta : Int) ≤ (tb : Int) := by omega
    have hz3 : (tb : Int) ≤ (s.size : Int) := by omega
    have HU := hq (fun WW => runquote_any (s.extract ta tb) WW (by rw [ByteArray.size_extract]; omega))
    unfold UnqPost at HU
    have HNM : Hq (keyTx s ta tb = (unquoteM (s.extract ta tb)).1) := hq rfl
    generalize unquoteM (s.extract ta tb) = U at *
    obtain ⟨nm, u1, u2⟩ := U
    simp only at HU HNM
    have hcl := And.intro (Below.refl W3.heap.size W3).drew (And.intro c0 (And.intro x1 x2))
    go_wp2_with fail
    go_region_held3 (fun W => Below W3.heap.size W3 W ∧ W.cell? ⟨g, 0, none⟩ = some (.string s) ∧ W.cell? ⟨bX, 0, none⟩ = some (.int .i64 (ta : Int)) ∧ W.cell? ⟨bX, 1, none⟩ = some (.int .i64 (tb : Int)))
      (first | exact ⟨(Below.refl _ _).drew, c0, x1, x2⟩ | exact hT2)
      ((go_at_call 104; refine (HU.o _).mono ?_; rintro e' w9 ⟨rfl, hb9⟩; have hT2 : Below W3.heap.size W3 w9 ∧ w9.cell? ⟨g, 0, none⟩ = some (.string s) ∧ w9.cell? ⟨bX, 0, none⟩ = some (.int .i64 (ta : Int)) ∧ w9.cell? ⟨bX, 1, none⟩ = some (.int .i64 (tb : Int)) := read_three (by assumption) hb9))
    have HR9 := hq (HR3.o.grow hT2.1)
    have HL9 := hq (HL3.o.below hT2.1)
    have HF9 := hq (HF3.o.trans (Fr.of_below _ hT2.1))
    have HX9 := hq (HX3.o.below hT2.1)
    have HHC : Hq (∀ i (hi : i < had.length), ∃ gH, ha = some ⟨gH, 0, none⟩ ∧ w9.cell? ⟨gH, i, none⟩ = some (.string (st had[i]))) := hq (fun i hi => by
      obtain ⟨n, hn⟩ : ∃ n, had.length = n + 1 := ⟨had.length - 1, by omega⟩
      have h1 := hH
      rw [hn] at h1
      obtain ⟨gH, c, hv, _, _, hcc⟩ := row_cells1 h1
      have h2 := hcc i (.string (st had[i])) (by unfold strC; simp [hi])
      cases hv
      exact ⟨gH, rfl, ((HH3.o w9 hT2.1).cell (cell_blk' h2)).trans h2⟩)
    clear hT2 hcl c0 x1 x2 HU HR3 HL3 HF3 HX3 HH3 hz1 hz2i hz3
    go_wp2_with fail
    go_loopg [11] had.length (fun gk u wr => ∃ i : Nat, i + gk ≤ had.length ∧ had.length ≤ i + gk ∧ u = .int .i64 (i : Int) ∧ Hq (∀ q (hq : q < had.length), q < i → had[q] ≠ nm) ∧ w9 = wr)
    case atStart => exact ⟨0, by omega, by omega, rfl, hq (fun q _ h => by omega), rfl⟩
    case round =>
      obtain ⟨i, hi1, hi2, rfl, HNO, rfl⟩ := hrel
      by_cases hil : i < had.length
      · have hiz : (i : Int) < (had.length : Int) := by omega
        obtain ⟨gH, rfl, y1⟩ := HHC.o i hil
        by_cases heq : had[i] = nm
        · have HM : Hq (KM = .inl (ta, 7)) := hq (by rw [HKM2.o, if_pos]; rw [HNM.o, ← heq]; exact List.getElem_mem hil)
          rw [heq] at y1
          have HW := hq (pwrong_any HR9.o 7)
          rw [HHE.o] at HW
          have e1 : ((st nm).toList == (st nm).toList) = true := beq_self_eq_true _
          clear HKM2 HNO heq HHC HPR HNM
          go_wp2_with fail
          refine HW.o.mono ?_
          rintro e W4 ⟨rfl, hr4, hf4⟩
          have HL4 := hq (HL9.o.step hf4)
          have HF4 := hq (HF9.o.trans hf4)
          have z0 := HL4.o.at_.at_ 0
          have z1 := HL4.o.at_.at_ 1
          have yf := HL4.o.at_.free
          have HS := hq (whole_set2 HL4.o.at_ (.int .i64 0) (.int .i64 0))
          have z2 := HS.o.at_ 0
          have z3 := HS.o.at_ 1
          have HV := hq (HPP.o ta 7 _ ⟨#[]⟩ 0 0 HM.o ⟨k, hr4.far2 HL4.o.no HVN.o hwl (.int .i64 0) (.int .i64 0)⟩ (HF4.o.new2 (Nat.le_refl _) (.int .i64 0) (.int .i64 0)))
          unfold set2 at z2 z3 HV
          have HZ := hq (And.intro z2 z3)
          clear hr4 hf4 HW HS z2 z3 HPP HM HF4 HL4 HR9 HL9 HF9 HX9
          go_wp2_with fail
          refine bodyPost_ret (v := keyV ⟨#[]⟩ 0 0 false) ?_ rfl HV.o
          obtain ⟨z0, z1⟩ := HZ.o
          simp [results, Tryd.results73, go_sem, z0, z1, keyV]
        · have hne : ¬ (st had[i]).toList = (st nm).toList := fun e => heq (by rw [ByteArray.toList_eq, ByteArray.toList_eq] at e; simpa using e)
          have e1 : ((st had[i]).toList == nm) = false := beq_eq_false_iff_ne.2 fun e => heq (by rw [ByteArray.toList_eq] at e; simpa using e)
          clear hne
          have HN2 : Hq (∀ q (hq : q < had.length), q < i + 1 → had[q] ≠ nm) := hq (fun q h1 h2 => by
            rcases Nat.lt_or_ge q i with h3 | h3
            · exact HNO.o q h1 h3
            · obtain rfl : q = i := by omega
              exact heq)
          clear HNO heq
          generalize st had[i] = SI at *
          go_wp2_with fail
          go_roundg (gk - 1)
          case measure => omega
          case rel => exact ⟨i + 1, by omega, by omega, int_eq (by omega), HN2, rfl⟩
      · have hiz : ¬ (i : Int) < (had.length : Int) := by omega
        have HM : Hq (KM = match takeM s.size 7 7 (L.drop (k + 1)) with
          | .inl e => .inl e
          | .inr (_, r2) => .inr ((kd, ta, tb), r2)) := hq (by
          rw [HKM2.o, if_neg]
          rw [HNM.o]
          intro hm
          obtain ⟨q, hq1, hq2⟩ := List.getElem_of_mem hm
          exact HNO.o q hq1 (by omega) hq2)
        have HNK := hq HNM.o
        clear HKM2 HNO HHC HNM
        obtain ⟨_, _, _, _, _, _, _, _, c2, _, _, _, cf⟩ := HR9.o.cells
        have HSTP := hq (HR9.o.step (k1 := k + 1) (by omega))
        have e5 : ((k + 1 : Nat) : Int) = (k : Int) + 1 := by omega
        rw [e5] at HSTP
        have hkl9 := HR9.o.tl9
        unfold maxLen at hkl9
        have hfr : Fr (r.own g) (r.own g) w9 (w9.setCell ⟨g, 2, none⟩ (.int .i64 ((k : Int) + 1))) := (Fr.refl _ _).set (.inl rfl) _
        have HX10 := hq (HX9.o.step hfr)
        have HL10 := hq (HL9.o.step hfr)
        have HF10 := hq (HF9.o.trans hfr)
        clear e5 hfr
        go_upto_region 11 with fail
        generalize w9.setCell ⟨g, 2, none⟩ (.int .i64 ((k : Int) + 1)) = w10 at *
        clear c2 cf HR9 HX9 HL9 HF9
        have HSG := hq (fun W' (hr : Pd w0 g s L vL (k + 1) r W') => psign_any hr 7 (by omega))
        have HTA := hq (takeM_at s L (k + 1) 7 7 (by omega) (by omega))
        have x1 := HX10.o.at_.at_ 0
        have x2 := HX10.o.at_.at_ 1
        have HD : Hq (Below w10.heap.size w10 w10.drew) := hq (Below.refl _ _).drew
        rcases HTA.o with ⟨hk7, hkl7, htk⟩ | ⟨⟨hk7, _⟩, htk⟩
        · rw [or_self] at hk7
          simp only [if_pos hk7] at HSG
          have HM2 : Hq (KM = .inr ((kd, ta, tb), L.drop (k + 1 + 1))) := hq (by rw [HM.o, htk])
          clear HM HTA hk7 htk HPP
          go_region_with (go_at_call 105; refine (HSG.o _ (HSTP.o.grow HD.o)).mono ?_; rintro e' w11 ⟨rfl, hr11, hf11, _⟩; have hf := (Fr.of_below (r.own g) HD.o).trans hf11; have HX11 := HX10.o.step hf; have x3 := HX11.at_.at_ 0; have x4 := HX11.at_.at_ 1; have HL11 := HL10.o.step hf; have y0 := HL11.at_.at_ 0; have y1 := HL11.at_.at_ 1; have yf := HL11.at_.free; have HS11 := whole_set2 HL11.at_ (.int .i64 (ta : Int)) (.int .i64 (tb : Int)); have z2 := HS11.at_ 0; have z3 := HS11.at_ 1; have HV := hq (HPR.o (kd, ta, tb) _ _ HM2.o ⟨k + 1 + 1, hr11.far2 HL11.no HVN.o hwl (.int .i64 (ta : Int)) (.int .i64 (tb : Int)), rfl⟩ ((HF10.o.trans hf).new2 (Nat.le_refl _) (.int .i64 (ta : Int)) (.int .i64 (tb : Int)))); unfold set2 at z2 z3 HV; have HZ := hq (And.intro z2 z3); clear z2 z3 HS11 hr11 hf11 hf HX11 HL11; rw [HNK.o] at HV)
          all_goals
            go_wp2_with fail
            refine bodyPost_ret (v := keyV (st nm) (ta : Int) (tb : Int) true) ?_ rfl HV.o
            obtain ⟨z0, z1⟩ := HZ.o
            simp [results, Tryd.results73, go_sem, z0, z1, keyV]
        · simp only [if_neg hk7] at HSG
          have HM2 : Hq (KM = .inl (hereAt s L (k + 1), 2)) := hq (by rw [HM.o, htk])
          clear HM HTA hk7 htk HPR
          go_region_with (go_at_call 105; refine (HSG.o _ (HSTP.o.grow HD.o)).mono ?_; rintro e' w11 ⟨rfl, hr11, hf11⟩; have hf := (Fr.of_below (r.own g) HD.o).trans hf11; have HX11 := HX10.o.step hf; have x3 := HX11.at_.at_ 0; have x4 := HX11.at_.at_ 1; have HL11 := HL10.o.step hf; have y0 := HL11.at_.at_ 0; have y1 := HL11.at_.at_ 1; have yf := HL11.at_.free; have HS11 := whole_set2 HL11.at_ (.int .i64 (ta : Int)) (.int .i64 (tb : Int)); have z2 := HS11.at_ 0; have z3 := HS11.at_ 1; have HV := hq (HPP.o _ _ _ (st nm) (ta : Int) (tb : Int) HM2.o ⟨k + 1, hr11.far2 HL11.no HVN.o hwl (.int .i64 (ta : Int)) (.int .i64 (tb : Int))⟩ ((HF10.o.trans hf).new2 (Nat.le_refl _) (.int .i64 (ta : Int)) (.int .i64 (tb : Int)))); unfold set2 at z2 z3 HV; have HZ := hq (And.intro z2 z3); clear z2 z3 HS11 hr11 hf11 hf HX11 HL11)
          all_goals
            go_wp2_with fail
            refine bodyPost_ret (v := keyV (st nm) (ta : Int) (tb : Int) false) ?_ rfl HV.o
            obtain ⟨z0, z1⟩ := HZ.o
            simp [results, Tryd.results73, go_sem, z0, z1, keyV]
  · have hf : ((kindAt L k : Int) != 8) = true := by rw [bne_iff_ne]; omega
    have HW := hq (pwrong_any HR2.o 2)
    have HM : Hq (KM = .inl (hereAt s L k, 2)) := hq (by rw [HKM.o, htk])
    clear hk8 htk HKM HPR
    generalize kindAt L k = kk at *
    generalize hereAt s L k = hh at *
    go_wp2_with fail
    refine HW.o.mono ?_
    rintro e W3 ⟨rfl, hr3, hf3⟩
    have HL3 := hq (HL2.o.step hf3)
    have HF3 := hq (HF2.o.trans hf3)
    have y0 := HL3.o.at_.at_ 0
    have y1 := HL3.o.at_.at_ 1
    have yf := HL3.o.at_.free
    have HS := hq (whole_set2 HL3.o.at_ (.int .i64 0) (.int .i64 0))
    have z0 := HS.o.at_ 0
    have z1 := HS.o.at_ 1
    have HV := hq (HPP.o hh 2 _ ⟨#[]⟩ 0 0 HM.o ⟨k, hr3.far2 HL3.o.no HVN.o hwl (.int .i64 0) (.int .i64 0)⟩ (HF3.o.new2 (Nat.le_refl _) (.int .i64 0) (.int .i64 0)))
    unfold set2 at z0 z1 HV
    have HZ := hq (And.intro z0 z1)
    clear hr3 hf3 HW HS z0 z1 HPP HM HF3 HL3 HR2 HF2 HL2
    go_wp2_with fail
    refine bodyPost_ret (v := keyV ⟨#[]⟩ 0 0 false) ?_ rfl HV.o
    obtain ⟨z0, z1⟩ := HZ.o
    simp [results, Tryd.results73, go_sem, z0, z1, keyV]
end Go.Proofs.YtmomildkopainaaDoor
