/-
  THE WALK OF THE LAW LexWalks.
-/
import Derived.Test.YtinenhnfhdeidaaDoorLexZ
import Derived.Test.YtinenhnfhdeidaaDoorRLexF
namespace Go.Proofs.YtinenhnfhdeidaaDoor
open Go.RowKit

def itemOf (x : Tok) : Item := (x.1, x.2.1, x.2.2, 0)
theorem items_front {s : ByteArray} (h : s.size ≤ 65536) : items s = (frontM s).map itemOf ++ (if (tokensM s).2.2 ≠ 0 then [(0, (tokensM s).2.1, (tokensM s).2.1, (tokensM s).2.2)] else []) := by
  unfold items frontM tokensM
  have hl : ¬ 65536 < s.size := by omega
  simp only [if_neg hl]
  rw [itemsL_toks]
  unfold toksM
  rw [toksGo_L]
  simp only [List.nil_append]
  by_cases he : (toksL s s.size 0).2.2 ≠ 0
  · simp only [if_pos he]; rfl
  · simp only [if_neg he]
    rw [if_neg (fun h => h rfl)]; rfl

theorem next_item {l : List Tok} {k : Nat} {e : Int} {pre : List Item} {x : Item} (h : pre ++ [x] <+: l.map itemOf ++ (if e ≠ 0 then [(0, k, k, e)] else [])) :
    (∃ t, l[pre.length]? = some t ∧ x = itemOf t) ∨ (pre.length = l.length ∧ e ≠ 0 ∧ x = (0, k, k, e)) := by
  obtain ⟨r, hr⟩ := h
  have hx : (l.map itemOf ++ (if e ≠ 0 then [(0, k, k, e)] else []))[pre.length]? = some x := by
    rw [← hr, List.append_assoc, List.getElem?_append_right (Nat.le_refl _)]
    simp
  by_cases hl : pre.length < l.length
  · left
    rw [List.getElem?_append_left (by simpa using hl), List.getElem?_map] at hx
    cases ht : l[pre.length]? with
    | none => rw [ht] at hx; cases hx
    | some t => rw [ht] at hx; exact ⟨t, rfl, (Option.some.inj hx).symm⟩
  · right
    rw [List.getElem?_append_right (by simpa using hl), List.length_map] at hx
    by_cases he : e ≠ 0
    · rw [if_pos he] at hx
      cases hk : pre.length - l.length with
      | zero => rw [hk] at hx; exact ⟨by omega, he, (Option.some.inj hx).symm⟩
      | succ q => rw [hk] at hx; simp at hx
    · rw [if_neg he] at hx; simp at hx

/-- between two calls of the law's function -/
def WalkJ (b m : Nat) (W0 : World) (pre : List Item) (W : World) : Prop :=
  pre.length ≤ m ∧ Whole W b 3 #[.int .i64 (pre.length : Int)] ∧ Whole W (b + 1) 4 #[.bool true] ∧ Whole W (b + 1 + 1) 4 #[.bool false] ∧ Below b W0 W ∧ b + 1 + 1 + 1 < W.heap.size
def WalkX (b m : Nat) (W0 : World) (pre : List Item) (W : World) : Prop :=
  pre.length = m + 1 ∧ Whole W b 3 #[.int .i64 (pre.length : Int)] ∧ Whole W (b + 1) 4 #[.bool true] ∧ Whole W (b + 1 + 1) 4 #[.bool true] ∧ Below b W0 W
theorem WalkJ.grow {b m : Nat} {W0 : World} (pre : List Item) (A B : World) (h : WalkJ b m W0 pre A) (hb : Below A.heap.size A B) : WalkJ b m W0 pre B :=
  ⟨h.1, h.2.1.grow hb, h.2.2.1.grow hb, h.2.2.2.1.grow hb, h.2.2.2.2.1.trans (hb.mono (Nat.le_of_lt h.2.1.lt)), Nat.lt_of_lt_of_le h.2.2.2.2.2 hb.size⟩

/-- the row that the law's function reads -/
theorem walks_step (b m n₁ : Nat) (s : ByteArray) (stop : Int) (W0 : World) (l : List Tok) (k : Nat) (err : Int) (v : Value) (bw be ba bs : Nat)
    (hm : stop % 64 = (m : Int)) (hl : l.length ≤ 1048576) (hi : items s = l.map itemOf ++ (if err ≠ 0 then [(0, k, k, err)] else []))
    (hrow : W0.ownsRow n₁ 25 3 v l.length (tokCells l))
    (hW : Whole W0 bw 27 #[v]) (hE : Whole W0 be 28 #[.int .i64 err]) (hA : Whole W0 ba 3 #[.int .i64 (k : Int)]) (hS : Whole W0 bs 3 #[.int .i64 stop])
    (hb : b = W0.heap.size) (pre : List Item) (x : Item) (W : World) (hJ : WalkJ b m W0 pre W) (hpx : pre ++ [x] <+: items s) :
    Calls Tryd.prog 22 #[tokV x.1 x.2.1 x.2.2.1, .int .i64 x.2.2.2, .pointer (some ⟨b + 1, 0, none⟩), .pointer (some ⟨b + 1 + 1, 0, none⟩), .pointer (some ⟨b, 0, none⟩), .pointer (some ⟨bw, 0, none⟩), .pointer (some ⟨be, 0, none⟩), .pointer (some ⟨ba, 0, none⟩), .pointer (some ⟨bs, 0, none⟩)] W fun e W' =>
      (e = .returned (.bool true) ∧ WalkJ b m W0 (pre ++ [x]) W' ∧ KpB b (b + 1 + 1 + 1) W W') ∨ (e = .returned (.bool false) ∧ WalkX b m W0 (pre ++ [x]) W') := by
  obtain ⟨j1, jN, jF, jO, jB, hBn⟩ := hJ
  rw [hi] at hpx
  have lw := hW.lt
  have le := hE.lt
  have la := hA.lt
  have ls := hS.lt
  have fin : ∀ e W', WalkPost b pre.length (decide (stop % 64 < (pre.length : Int) + 1)) W e W' →
      (e = .returned (.bool true) ∧ WalkJ b m W0 (pre ++ [x]) W' ∧ KpB b (b + 1 + 1 + 1) W W') ∨ (e = .returned (.bool false) ∧ WalkX b m W0 (pre ++ [x]) W') := by
    rintro e W' ⟨he, h1, h2, h3, h4, h5⟩
    have hlen : (pre ++ [x]).length = pre.length + 1 := by simp
    have hc : (((pre ++ [x]).length : Nat) : Int) = (pre.length : Int) + 1 := by rw [hlen]; omega
    rw [← hc] at h1
    by_cases ho : stop % 64 < (pre.length : Int) + 1
    · rw [decide_eq_true ho] at he h3
      exact .inr ⟨he, by omega, h1, h2, h3, jB.trans h4⟩
    · rw [decide_eq_false ho] at he h3
      exact .inl ⟨he, ⟨by omega, h1, h2, h3, jB.trans h4, Nat.lt_of_lt_of_le hBn h4.size⟩, h4, h5 _ (by omega) hBn⟩
  rcases next_item hpx with ⟨t, ht, rfl⟩ | ⟨hn, he, rfl⟩
  · have hlt : pre.length < l.length := (List.getElem?_eq_some_iff.1 ht).1
    obtain ⟨g, cap, rfl, hg1, hg2, hcap, hcm, hfr, hcell⟩ := toks_cell hrow (by omega)
    obtain ⟨c1, c2, c3⟩ := hcell _ _ ht
    refine (walks1_tok t.1 t.2.1 t.2.2 pre.length l.length cap (some ⟨g, 0, none⟩) stop err k b bw be ba bs W jN jF jO (hW.kept jB (by omega)) (hE.kept jB (by omega)) (hA.kept jB (by omega)) (hS.kept jB (by omega)) g rfl (by omega) (by omega) (by omega) (by omega) (by omega) hlt hl
      ((jB.cell (p := ⟨g, _, none⟩) (by simpa [hb] using hg2)).trans c1) ((jB.cell (p := ⟨g, _, none⟩) (by simpa [hb] using hg2)).trans c2) ((jB.cell (p := ⟨g, _, none⟩) (by simpa [hb] using hg2)).trans c3)).mono fin
  · obtain ⟨vb, vc, rfl⟩ := toks_len hrow
    refine (walks1_err k l.length vc vb stop err b bw be ba bs W (by rw [← hn]; exact jN) jF jO (hW.kept jB (by omega)) (hE.kept jB (by omega)) (hA.kept jB (by omega)) (hS.kept jB (by omega)) he (by omega) (by omega) (by omega) (by omega) hl).mono ?_
    rw [← hn]
    exact fin

theorem row_stays {w w' : World} {B : Nat} {v : Value} {l : List Tok} (h : w.ownsRow B 25 3 v l.length (tokCells l)) (hb : Below w.heap.size w w') : w'.ownsRow B 25 3 v l.length (tokCells l) :=
  h.kept (row := none) ⟨hb.os, hb.tape, hb.output, hb.size, fun k hk _ => hb.block k hk⟩ (Classical.em _)
set_option maxHeartbeats 4000000 in
set_option maxRecDepth 1000000 in
theorem lwalks_any (s : ByteArray) (stop : Int) (w : World) (hT : tabs w) (hs : s.size ≤ maxLen) (hst : -9223372036854775808 ≤ stop ∧ stop ≤ 9223372036854775807) :
    Calls Tryd.prog 4 #[.string s, .int .i64 stop] w fun e w' => e = .returned (.bool true) ∧ Below w.heap.size w w' := by
  obtain ⟨hst1, hst2⟩ := hst
  have hB0 := below_alloc w (.cells #[.int .i64 stop] 3)
  have hS0 := Whole.made w 3 #[.int .i64 stop]
  have HT := hq (tabs_grow hT hB0)
  clear hT
  by_cases hbig : 2048 < s.size
  · have hbig' : (2048 : Int) < (s.size : Int) := by omega
    clear hbig
    go_enter Tryd.func4, Tryd.ntmps4
    go_wp2_with fail
    refine (lsmall_any _ HT.o).mono ?_
    rintro e w1 ⟨rfl, hb1⟩
    have hbb := below_trans hB0 hb1
    clear hb1 hB0
    go_wp2_with fail
    go_ret
    exact ⟨rfl, hbb⟩
  · have hbig' : ¬ (2048 : Int) < (s.size : Int) := by omega
    have HFR := hq (fun W => rfront4_any s W hs)
    have HTK := hq (fun W => rtokens4_any s W hs)
    have HI := hq (@items_front s (by omega))
    have hlf : (frontM s).length ≤ 65537 := by
      have := items_len s
      rw [HI.o, List.length_append, List.length_map] at this
      omega
    have hkl := (tokensM_len s).2
    have HIL := hq (items_len s)
    have hmn : ∃ m : Nat, stop % 64 = (m : Int) ∧ m ≤ 63 := ⟨(stop % 64).toNat, by omega, by omega⟩
    obtain ⟨m, hm, hm2⟩ := hmn
    have HM := hq hm
    clear hm hbig
    generalize frontM s = l at *
    generalize tokensM s = R at *
    obtain ⟨lb, k, err⟩ := R
    dsimp only at HI hkl
    go_enter Tryd.func4, Tryd.ntmps4
    go_wp2_with fail
    refine (lsmall_any _ HT.o).mono ?_
    rintro e w1 ⟨rfl, hb1⟩
    have HT1 := hq (tabs_grow HT.o hb1)
    have HS1 := hq (hS0.grow hb1)
    have HB1 := hq (below_trans hB0 hb1)
    clear hb1 hB0 hS0 HT
    go_wp2_with fail
    refine (HFR.o _).mono ?_
    rintro e w2 ⟨v, rfl, hrow, hb2⟩
    have HR2 := hq hrow
    have HT2 := hq (tabs_grow HT1.o hb2)
    have HS2 := hq (HS1.o.grow hb2)
    have HB2 := hq (below_trans HB1.o hb2)
    obtain ⟨vb, vc, rfl⟩ := toks_len hrow
    clear hb2 hrow HS1 HB1 HT1 HFR
    go_wp2_with fail
    refine (HTK.o _).mono ?_
    rintro e w3 ⟨v3, rfl, _, hb3⟩
    have hz2 : (w2.alloc (.cells #[.slice vb l.length vc] 27)).heap.size = w2.heap.size + 1 := by simp
    have hB3 := below_trans (below_alloc w2 (.cells #[.slice vb l.length vc] 27)) hb3
    have hW3 := (Whole.made w2 27 #[.slice vb l.length vc]).grow hb3
    have hB5 := (hB3.alloc (by have := hB3.size; omega) (.cells #[.int .i64 (k : Int)] 3)).alloc (by have := hB3.size; simp; omega) (.cells #[.int .i64 err] 28)
    have hW5 := (hW3.alloc (.cells #[.int .i64 (k : Int)] 3)).alloc (.cells #[.int .i64 err] 28)
    have hA5 := (Whole.made w3 3 #[.int .i64 (k : Int)]).alloc (.cells #[.int .i64 err] 28)
    have hE5 := Whole.made (w3.alloc (.cells #[.int .i64 (k : Int)] 3)) 28 #[.int .i64 err]
    rw [World.size_alloc] at hE5
    have HR5 := hq (row_stays HR2.o hB5)
    have HT5 := hq (tabs_grow HT2.o hB5)
    have HS5 := hq (HS2.o.grow hB5)
    have HB5 := hq (below_trans HB2.o hB5)
    clear hb3 hz2 hB3 hW3 hB5 HR2 HT2 HS2 HB2
    go_upto_region 6 with fail
    generalize (w3.alloc (.cells #[.int .i64 (k : Int)] 3)).alloc (.cells #[.int .i64 err] 28) = w5 at *
    generalize w3.heap.size = b3 at *
    generalize w2.heap.size = b2 at *
    have HW5 := hq hW5
    have HA5 := hq hA5
    have HE5 := hq hE5
    clear hW5 hA5 hE5
    have HMN := hq hm2
    go_wp2_with fail
    go_loopw [10] (fun i wr => ∃ j : Nat, j ≤ 2 ∧ i = .int .i64 (j : Int) ∧ Below w5.heap.size w5 wr) (fun i _ => 2 - (intOf i).toNat)
    case atStart => exact ⟨0, by omega, rfl, Below.refl _ _⟩
    case round =>
      obtain ⟨j, hj, rfl, hbr⟩ := hrel
      by_cases hj2 : j < 2
      · go_wp2_with fail
        refine (all4_any s _).mono ?_
        rintro e w6 ⟨rfl, hw6⟩
        have hnil : ∀ (p : Addr) (W : World), (binOp .eql 37 (.func (.func 33) #[] #[.pointer (some p)]) .nilFunc).run Tryd.prog W = .ok (.bool false) W := fun _ _ => by kernel_rfl
        go_upto_region 15 with fail
        have qN := (((Whole.made wr 3 #[.int .i64 0]).alloc (.cells #[.bool true] 4)).alloc (.cells #[.bool false] 4)).alloc (.cells #[.string s] 9)
        have qF := ((Whole.made (wr.alloc (.cells #[.int .i64 0] 3)) 4 #[.bool true]).alloc (.cells #[.bool false] 4)).alloc (.cells #[.string s] 9)
        have qO := (Whole.made ((wr.alloc (.cells #[.int .i64 0] 3)).alloc (.cells #[.bool true] 4)) 4 #[.bool false]).alloc (.cells #[.string s] 9)
        have qS := Whole.made (((wr.alloc (.cells #[.int .i64 0] 3)).alloc (.cells #[.bool true] 4)).alloc (.cells #[.bool false] 4)) 9 #[.string s]
        have hB6 := (((below_alloc wr (.cells #[.int .i64 0] 3)).alloc (by simp) (.cells #[.bool true] 4)).alloc (by simp; omega) (.cells #[.bool false] 4)).alloc (by simp; omega) (.cells #[.string s] 9)
        simp only [World.size_alloc] at qN qF qO qS
        generalize (((wr.alloc (.cells #[.int .i64 0] 3)).alloc (.cells #[.bool true] 4)).alloc (.cells #[.bool false] 4)).alloc (.cells #[.string s] 9) = w6 at *
        have hTr := tabs_grow HT5.o hbr
        have HC := hq (all4_fn (wr.heap.size + 1 + 1 + 1) wr.heap.size (.pointer (some ⟨wr.heap.size + 1, 0, none⟩)) (.pointer (some ⟨wr.heap.size + 1 + 1, 0, none⟩)) (.pointer (some ⟨wr.heap.size, 0, none⟩)) (.pointer (some ⟨b2, 0, none⟩)) (.pointer (some ⟨b3 + 1, 0, none⟩)) (.pointer (some ⟨b3, 0, none⟩)) (.pointer (some ⟨w.heap.size, 0, none⟩)) s hs
          (WalkJ wr.heap.size m wr) (WalkX wr.heap.size m wr)
          (fun pre x W hJ hpx => walks_step wr.heap.size m _ s stop wr l k err _ b2 (b3 + 1) b3 w.heap.size HM.o (by omega) HI.o (row_stays HR5.o hbr) (HW5.o.grow hbr) (HE5.o.grow hbr) (HA5.o.grow hbr) (HS5.o.grow hbr) rfl pre x W hJ hpx)
          w6 (fun pre A B h hb => WalkJ.grow pre A B h hb) (qS.at_ 0) qS.lt (fun A hA => tabs_grow hTr (hB6.trans hA)) hB6.size
          ⟨Nat.zero_le _, qN, qF, qO, hB6, qS.lt⟩)
        clear qN qF qO qS hTr
        go_wp2_with fail
        refine HC.o.mono ?_
        rintro e w7 ⟨rfl, hres⟩
        have hlen : (items s).length = l.length + (if err ≠ 0 then 1 else 0) := by
          rw [HI.o, List.length_append, List.length_map]
          split <;> rfl
        have hfin : ∃ q : Nat, Whole w7 wr.heap.size 3 #[.int .i64 (q : Int)] ∧ Whole w7 (wr.heap.size + 1) 4 #[.bool true] ∧ Below wr.heap.size wr w7 ∧ q = min (l.length + (if err ≠ 0 then 1 else 0)) (m + 1) := by
          rw [← hlen]
          rcases hres with h | ⟨pre, hp, h⟩
          · exact ⟨_, h.2.1, h.2.2.1, h.2.2.2.2.1, by have := h.1; omega⟩
          · exact ⟨_, h.2.1, h.2.2.1, h.2.2.2.2, by have := h.1; have := hp.length_le; omega⟩
        obtain ⟨q, d1, d2, hb7, hq7⟩ := hfin
        have g1 := d1.at_ 0
        have g2 := d2.at_ 0
        have hwr := hbr.trans (hb7.mono hbr.size)
        have g3 := (HW5.o.grow hwr).at_ 0
        have g4 := (HE5.o.grow hwr).at_ 0
        have g5 := (HS5.o.grow hwr).at_ 0
        have hmm := i64_and63 stop
        rw [HM.o] at hmm
        have HMM := hq hmm
        have HQ := hq hq7
        clear hmm hq7 hlen hres d1 d2 HC hB6 hb7
        have hwm : wrap64 (1 + (m : Int)) = 1 + (m : Int) := by unfold wrap64; omega
        by_cases he : err ≠ 0
        · have e1 : (err != 0) = true := bne_iff_ne.2 he
          have e2 : ((q : Int) != min ((l.length : Int) + 1) (wrap64 (1 + bits BinOp.and IntKind.i64 stop 63))) = false := by
            have h1 := HQ.o
            rw [if_pos he] at h1
            rw [HMM.o, hwm, bne_eq_false_iff_eq]
            omega
          clear he HMM HQ hwm
          go_wp2_with fail
          go_roundw
          case rel => exact ⟨j + 1, by omega, int_eq (by omega), hwr⟩
          case measure => simp [intOf]; omega
        · have e1 : (err != 0) = false := by rw [show err = 0 by omega]; rfl
          have e2 : ((q : Int) != min (l.length : Int) (wrap64 (1 + bits BinOp.and IntKind.i64 stop 63))) = false := by
            have h1 := HQ.o
            rw [if_neg he] at h1
            rw [HMM.o, hwm, bne_eq_false_iff_eq]
            omega
          clear he HMM HQ hwm
          go_wp2_with fail
          go_roundw
          case rel => exact ⟨j + 1, by omega, int_eq (by omega), hwr⟩
          case measure => simp [intOf]; omega
      · go_wp2_with fail
        go_ret
        exact ⟨rfl, below_trans HB5.o hbr⟩
end Go.Proofs.YtinenhnfhdeidaaDoor
