/-
  WALK: the law JsonSpaces.
-/
import Derived.Test.YtleabaldjlbnlaaDoorJtQ
import Derived.Test.YtleabaldjlbnlaaDoorJsZ
import Derived.Laws.BitsLemmas
import Derived.Deep.CutRange
import Derived.Deep.RegionWith
import Derived.Deep.QuietTactic
import Derived.BigQuiet
import Derived.IntWalk
namespace Go.Proofs.YtleabaldjlbnlaaDoor
open Go.RowKit

theorem i64_and15 (n : Int) : bits .and .i64 n 15 = n % 16 := by
  have h63 : (BitVec.ofInt 64 15).toNat = 2 ^ 4 - 1 := by decide
  have key : (BitVec.ofInt 64 n &&& BitVec.ofInt 64 15).toNat = (n % ((2 ^ 64 : Nat) : Int)).toNat % 2 ^ 4 := by
    rw [BitVec.toNat_and, BitVec.toNat_ofInt, h63, Nat.and_two_pow_sub_one_eq_mod]
  show IntKind.i64.wrap ((BitVec.ofInt 64 n &&& BitVec.ofInt 64 15).toNat : Nat) = n % 16
  rw [key, IntKind.wrap_i64]
  omega
theorem byt_left (x y : ByteArray) (j : Nat) (h : j < x.size) : byt (x ++ y) j = byt x j := by
  rw [byt_eq _ _ (by rw [ByteArray.size_append]; omega), byt_eq _ _ h, ByteArray.getElem_append_left h]
theorem byt_right (x y : ByteArray) (j : Nat) (h : j < y.size) : byt (x ++ y) (x.size + j) = byt y j := by
  rw [byt_eq _ _ (by rw [ByteArray.size_append]; omega), byt_eq _ _ h, ByteArray.getElem_append_right (by omega)]
  congr 2
  omega
def blanks16 : ByteArray := ⟨#[32, 10, 9, 13, 32, 10, 9, 13, 32, 10, 9, 13, 32, 10, 9, 13]⟩
theorem blanks_blank (a j : Nat) (ha : a ≤ 16) (hj : j < a) : isBlank (byt (blanks16.extract 0 a) j) = true := by
  rw [byt_sub blanks16 0 a j ha (by omega), Nat.zero_add]
  have : ∀ j, j < 16 → isBlank (byt blanks16 j) = true := by decide +kernel
  exact this j (by omega)
theorem blanks_size (a : Nat) (ha : a ≤ 16) : (blanks16.extract 0 a).size = a := by
  rw [ByteArray.size_extract]
  have : blanks16.size = 16 := rfl
  omega
theorem spaces_text (s : ByteArray) {a b : Nat} (ha : a ≤ 16) (hb : b ≤ 16) : (blanks16.extract 0 a ++ s ++ blanks16.extract 0 b).size = a + s.size + b ∧ (∀ j, j < a → isBlank (byt (blanks16.extract 0 a ++ s ++ blanks16.extract 0 b) j) = true) ∧
    (∀ j, j < s.size → byt (blanks16.extract 0 a ++ s ++ blanks16.extract 0 b) (a + j) = byt s j) ∧ ∀ j, a + s.size ≤ j → j < (blanks16.extract 0 a ++ s ++ blanks16.extract 0 b).size → isBlank (byt (blanks16.extract 0 a ++ s ++ blanks16.extract 0 b) j) = true := by
  have ea := blanks_size a ha
  have eb := blanks_size b hb
  have e1 : (blanks16.extract 0 a ++ s).size = a + s.size := by rw [ByteArray.size_append, ea]
  have e2 : (blanks16.extract 0 a ++ s ++ blanks16.extract 0 b).size = a + s.size + b := by rw [ByteArray.size_append, e1, eb]
  refine ⟨e2, fun j hj => ?_, fun j hj => ?_, fun j h1 h2 => ?_⟩
  · rw [byt_left _ _ _ (by omega), byt_left _ _ _ (by omega)]
    exact blanks_blank a j ha hj
  · rw [byt_left _ _ _ (by omega)]
    have := byt_right (blanks16.extract 0 a) s j hj
    rwa [ea] at this
  · have := byt_right (blanks16.extract 0 a ++ s) (blanks16.extract 0 b) (j - (a + s.size)) (by omega)
    rw [e1, show a + s.size + (j - (a + s.size)) = j by omega] at this
    rw [this]
    exact blanks_blank b _ hb (by omega)
theorem spaces_parse (s : ByteArray) {a b : Nat} (ha : a ≤ 16) (hb : b ≤ 16) (h4 : s.size ≤ 4096) {T : ByteArray} (hT : T = blanks16.extract 0 a ++ s ++ blanks16.extract 0 b) :
    T.size = a + s.size + b ∧ (∀ ns, jparseM s = .inr ns → ∃ cs, jparseM T = .inr cs ∧ LR (a + ·) 0 0 0 ns cs) ∧ (∀ wh er, jparseM s = .inl (wh, er) → ∃ wh' er', jparseM T = .inl (wh', er') ∧ er' ≠ 0) := by
  obtain ⟨e1, e2, e3, e4⟩ := spaces_text s ha hb
  rw [← hT] at e1 e2 e3 e4
  obtain ⟨h1, h2⟩ := spaces_ok (by omega) e3 e2 e4 (by omega) h4
  refine ⟨e1, h1, fun wh er h => ?_⟩
  cases hq : jparseM T with
  | inl e => exact ⟨e.1, e.2, rfl, jparseM_er hq⟩
  | inr cs =>
    obtain ⟨ns, h3⟩ := h2 cs hq
    rw [h] at h3; cases h3
theorem comma_text (s : ByteArray) {ns : List JN} (h4 : s.size ≤ 4096) (h : jparseM s = .inr ns) : ∃ wh, jparseM (s ++ ⟨#[44]⟩) = .inl (wh, 2) := by
  have e : (s ++ ⟨#[44]⟩ : ByteArray).size = s.size + 1 := by rw [ByteArray.size_append]; rfl
  refine comma_err e (fun j hj => byt_left _ _ _ hj) ?_ (by omega) h4 h
  have := byt_right s ⟨#[44]⟩ 0 (by decide)
  rw [Nat.add_zero] at this
  rw [this]; rfl
theorem jparse_weak {s : ByteArray} {W W' : World} {e : Ending} (h : JParsePost s W e W') : ∃ sx o l c n er, e = .returned (.tuple #[.agg #[.string sx, .slice o l c], .int .i64 n, .int .i64 er]) ∧ Below W.heap.size W W' := by
  unfold JParsePost at h
  cases hp : jparseM s with
  | inl p => rw [hp] at h; exact ⟨_, _, _, _, _, _, h.1, h.2⟩
  | inr ns =>
    rw [hp] at h
    obtain ⟨nv, vN, h1, h3, _, h2⟩ := h
    obtain ⟨na, nc, rfl⟩ := row_shape h3.nd
    exact ⟨_, _, _, _, _, _, h1, h2⟩
/-- the cells of a Doc's node -/
theorem node_cells {W : World} {B : Nat} {nv : List NV} {o : Option Addr} {cap : Nat} (h : DocIn B nv (.slice o nv.length cap) W) {k : Nat} (hk : k < nv.length) :
    ∃ g ka kc, o = some ⟨g, 0, none⟩ ∧ ∀ W', Below W.heap.size W W' → W'.cell? ⟨g, k * 7, none⟩ = some (.int .i64 (nv[k].n.kd : Int)) ∧ W'.cell? ⟨g, k * 7 + 1, none⟩ = some (.int .i64 (nv[k].n.a : Int)) ∧ W'.cell? ⟨g, k * 7 + 2, none⟩ = some (.int .i64 (nv[k].n.b : Int)) ∧ W'.cell? ⟨g, k * 7 + 3, none⟩ = some (.int .i64 (nv[k].n.ka : Int)) ∧ W'.cell? ⟨g, k * 7 + 4, none⟩ = some (.int .i64 (nv[k].n.kb : Int)) ∧ W'.cell? ⟨g, k * 7 + 5, none⟩ = some (.slice ka nv[k].n.kids.length kc) := by
  obtain ⟨g, c, hv, _, _, _, _, _, hc⟩ := h.node hk
  obtain ⟨ka, kc, hks⟩ := row_shape (h.kr k hk)
  injection hv with ho
  refine ⟨g, ka, kc, ho, fun W' hb => ?_⟩
  have hcw : ∀ j (u : Value), j < 7 → (nodeC nv[k])[j]? = some u → W'.cell? ⟨g, k * 7 + j, none⟩ = some u := fun j u hj hu => by
    have := (hc k hk j hj).trans hu
    exact (hb.cell (cell_blk' this)).trans this
  exact ⟨hcw 0 _ (by omega) rfl, hcw 1 _ (by omega) rfl, hcw 2 _ (by omega) rfl, hcw 3 _ (by omega) rfl, hcw 4 _ (by omega) rfl, by rw [← hks]; exact hcw 5 _ (by omega) rfl⟩
theorem DocIn.down {B B' : Nat} {nv : List NV} {vN : Value} {W : World} (h : DocIn B nv vN W) (hb : B' ≤ B) : DocIn B' nv vN W :=
  ⟨row_base' h.nd hb, fun i hi => row_base' (h.kr i hi) hb, fun i hi => row_base' (h.pr i hi) hb, h.ak, h.ap, h.n4, h.kl⟩
theorem below_drawnS {B : Nat} {a w : World} (h : Below B a w) (n : Nat) : Below B a (w.drewN n) := ⟨h.os, h.tape, h.output, h.size, h.block⟩
theorem size_up (w : World) (o : Obj) : w.heap.size < (w.alloc o).drew.heap.size := by
  show w.heap.size < (w.alloc o).heap.size
  rw [World.size_alloc]; omega
/-- a Doc in a box of its own -/
structure DocBox (B g : Nat) (nv : List NV) (t : ByteArray) (o : Option Addr) (n c : Nat) (W wx : World) : Prop where
  box : Whole wx g 25 #[.string t, .slice o n c]
  doc : DocIn B nv (.slice o n c) wx
  below : Below W.heap.size W wx
theorem DocBox.grow {B g : Nat} {nv : List NV} {t : ByteArray} {o : Option Addr} {n c : Nat} {W W' W'' : World} (h : DocBox B g nv t o n c W W') (hb : Below W'.heap.size W' W'') : DocBox B g nv t o n c W W'' :=
  ⟨h.box.grow hb, h.doc.grow hb, below_trans h.below hb⟩
set_option maxHeartbeats 1000000 in
set_option maxRecDepth 1000000 in
theorem jspaces_any (s : ByteArray) (x y : Int) (W : World) (hT : tabs W) (hs : s.size ≤ maxLen) :
    Calls Tryd.prog 7 #[.string s, .int .i64 x, .int .i64 y] W fun e W' => e = .returned (.bool true) ∧ Below W.heap.size W W' := by
  have HS := hq (jsmall_any W hT)
  have HPA := hq (fun t WW (hb : Below W.heap.size W WW) (ht : t.size ≤ maxLen) => jparse_any t WW (tabs_grow hT hb) ht)
  obtain ⟨a, ha, ha15⟩ : ∃ a : Nat, bits .and .i64 x 15 = (a : Int) ∧ a ≤ 15 := ⟨(x % 16).toNat, by rw [i64_and15]; omega, by omega⟩
  obtain ⟨b, hb, hb15⟩ : ∃ b : Nat, bits .and .i64 y 15 = (b : Int) ∧ b ≤ 15 := ⟨(y % 16).toNat, by rw [i64_and15]; omega, by omega⟩
  have HPS := hq (fun WW hb => HPA.o s WW hb hs)
  clear hT
  unfold maxLen at hs
  go_enter Tryd.func7, Tryd.ntmps7
  go_wp2_with fail
  refine HS.o.mono ?_
  rintro e W1 ⟨rfl, hb1⟩
  have HB1 := hq hb1
  clear hb1 HS
  have HP := hq (HPS.o W1 HB1.o)
  clear HPS
  by_cases hbig : 4096 < s.size
  · have hz1 : (4096 : Int) < (s.size : Int) := by omega
    clear HPA
    go_wp2_with fail
    refine HP.o.mono ?_
    rintro e W2 h
    obtain ⟨sx, o, l, c, n, er, rfl, hb2⟩ := jparse_weak h
    have HB2 := hq (below_trans (below_trans HB1.o hb2) (below_alloc W2 (.cells #[.string sx, .slice o l c] 25)))
    clear hb2 HP h
    go_wp2_with fail
    go_ret
    exact ⟨rfl, HB2.o⟩
  · have hz1 : ¬ (4096 : Int) < (s.size : Int) := by omega
    obtain ⟨tz, tok, tno⟩ := spaces_parse s (a := a) (b := b) (by omega) (by omega) (by omega) rfl
    have HPT := hq (fun WW hb => HPA.o (blanks16.extract 0 a ++ s ++ blanks16.extract 0 b) WW hb (by rw [tz]; unfold maxLen; omega))
    have hza : (a : Int) ≤ 16 := by omega
    have hzb : (b : Int) ≤ 16 := by omega
    unfold blanks16 at HPT tz tok tno
    cases hpm : jparseM s with
    | inl e =>
      obtain ⟨wh, er⟩ := e
      obtain ⟨wh', er', hpt, her'⟩ := tno _ _ hpm
      have herb : (er != 0) = true := bne_iff_ne.2 (jparseM_er hpm)
      have herb' : (er' != 0) = true := bne_iff_ne.2 her'
      unfold JParsePost at HP HPT
      rw [hpm] at HP
      rw [hpt] at HPT
      simp only at HP HPT
      clear hpm hpt tok tno her' HPA tz
      go_wp2_with fail
      refine HP.o.mono ?_
      rintro e W2 ⟨rfl, hb2⟩
      have HB2 := hq (below_trans (below_trans HB1.o hb2) (below_alloc W2 (.cells #[.string ⟨#[]⟩, .slice none 0 0] 25)))
      clear hb2 HP
      go_upto_region 8 with fail
      generalize W2.alloc (.cells #[.string ⟨#[]⟩, .slice none 0 0] 25) = W3 at *
      have HX3 := hq ((Whole.made W3 25 #[.string ⟨#[]⟩, .slice none 0 0]).grow (Below.refl _ _).drew)
      go_cut [14, 15, 16] from 35 to 113 (fun p n f wx => f = .int .i64 er' ∧ Hq (Below W.heap.size W wx))
      case first =>
        go_wp2_with fail
        go_region_with (go_at_call 11; refine (HPT.o _ (by first | exact HB2.o.drew | exact (below_trans HB2.o (below_alloc _ _)).drew)).mono ?_; rintro e w9 ⟨rfl, hb9⟩; try (have hX9 : Whole w9 W3.heap.size 25 #[.string ⟨#[]⟩, .slice none 0 0] := HX3.o.grow hb9; have hx0 := hX9.at_ 0; have hx1 := hX9.at_ 1; have hf0 := hX9.free 0; have hf1 := hX9.free 1))
        all_goals (go_wp2_with fail; go_meet)
        all_goals first
          | exact ⟨rfl, hq (below_trans (below_trans HB2.o.drew hb9) (below_alloc _ _))⟩
          | exact ⟨rfl, hq (below_set2 (below_trans (below_trans HB2.o (below_alloc _ _)).drew hb9) HB2.o.size _ _)⟩
      case rest =>
        obtain ⟨rfl, hbx⟩ := hcut
        go_wp2_with fail
        go_ret
        exact ⟨rfl, hbx.o⟩
    | inr ns =>
      obtain ⟨cs, hpt, hlr⟩ := tok _ hpm
      obtain ⟨wh3, hp3⟩ := comma_text s (by omega) hpm
      have HTR := hq (jparseM_whole hpm)
      have HLR := hq hlr
      have HP3 := hq (fun WW hb => HPA.o (s ++ ⟨#[44]⟩) WW hb (by rw [ByteArray.size_append]; show s.size + 1 ≤ maxLen; unfold maxLen; omega))
      unfold JParsePost at HP HPT HP3
      rw [hpm] at HP
      rw [hpt] at HPT
      rw [hp3] at HP3
      simp only at HP HPT HP3
      rw [tz] at HPT
      clear hpm hpt hp3 tok tno HPA tz hlr
      generalize hBT : (⟨#[32, 10, 9, 13, 32, 10, 9, 13, 32, 10, 9, 13, 32, 10, 9, 13]⟩ : ByteArray).extract 0 a ++ s ++ (⟨#[32, 10, 9, 13, 32, 10, 9, 13, 32, 10, 9, 13, 32, 10, 9, 13]⟩ : ByteArray).extract 0 b = T at HPT
      have HBT := hq hBT
      clear hBT
      go_wp2_with fail
      refine HP.o.mono ?_
      rintro e W2 ⟨nv, vN, rfl, hd2, hn2, hb2⟩
      obtain ⟨na, nc, rfl⟩ := row_shape hd2.nd
      have hb3 := below_alloc W2 (.cells #[.string s, .slice na nv.length nc] 25)
      have HD3 := hq (hd2.grow hb3)
      have HW3 := hq (Whole.made W2 25 #[.string s, .slice na nv.length nc])
      have HB3 := hq (below_trans (below_trans HB1.o hb2) hb3)
      have HN2 := hq hn2
      have hn4 := hd2.n4
      go_upto_region 8 with fail
      generalize W2.heap.size = bD at *
      generalize W2.alloc (.cells #[.string s, .slice na nv.length nc] 25) = W3 at *
      clear hb2 hb3 hd2 hn2 HP HB1
      have HX3 := hq ((Whole.made W3 25 #[.string ⟨#[]⟩, .slice none 0 0]).grow (Below.refl _ _).drew)
      go_cut [14, 15, 16] from 35 to 113 (fun p n f wx => ∃ g nv2 o2 c2 N, p = .pointer (some ⟨g, 0, none⟩) ∧ n = .int .i64 N ∧ f = .int .i64 0 ∧ Hq (N = (a : Int) + (s.size : Int) + (b : Int)) ∧ Hq (DocBox W3.heap.size g nv2 T o2 nv2.length c2 W3 wx) ∧ Hq (nv2.map NV.n = cs))
      case first =>
        go_wp2_with fail
        go_region_with (go_at_call 11; rw [HBT.o]; refine (HPT.o _ (by first | exact HB3.o.drew | exact (below_trans HB3.o (below_alloc _ _)).drew)).mono ?_; rintro e w9 ⟨nv2, v2, rfl, hd9, hn9, hb9⟩; obtain ⟨o2, c2, rfl⟩ := row_shape hd9.nd; try (have hX9 : Whole w9 W3.heap.size 25 #[.string ⟨#[]⟩, .slice none 0 0] := HX3.o.grow hb9; have hx0 := hX9.at_ 0; have hx1 := hX9.at_ 1; have hf0 := hX9.free 0; have hf1 := hX9.free 1))
        all_goals (go_wp2_with fail; go_meet)
        all_goals first
          | (exact ⟨_, nv2, o2, c2, _, rfl, rfl, rfl, hq rfl, hq ⟨Whole.made _ _ _, hd9.grow (below_alloc _ _), below_trans (below_trans (Below.refl _ _).drew hb9) (below_alloc _ _)⟩, hq hn9⟩)
          | (exact ⟨_, nv2, o2, c2, _, rfl, rfl, rfl, hq rfl, hq ⟨whole_set2 hX9 _ _, (hd9.far (size_up _ _) _ _).down (Nat.le_of_lt (size_up _ _)), below_set2 (below_trans (below_alloc _ _).drew hb9) (Nat.le_refl _) _ _⟩, hq hn9⟩)
      case rest =>
        obtain ⟨g, nv2, o2, c2, N, rfl, rfl, rfl, HNN, hbox, hn9⟩ := hcut
        have HBX := hq (below_trans HB3.o hbox.o.below)
        have HDX := hq (HD3.o.grow hbox.o.below)
        have HWX := hq (HW3.o.grow hbox.o.below)
        have hll : nv2.length = nv.length := by
          have h1 := HLR.o.ln
          rw [← HN2.o, ← hn9.o, List.length_map, List.length_map] at h1
          omega
        have hpos : 0 < nv.length := by have := HTR.o.pos; rwa [← HN2.o, List.length_map] at this
        have h00 : nv2[0].n.a = a + nv[0].n.a := by
          obtain ⟨y, h1, h2⟩ := HLR.o.at_ 0 0 nv[0].n (Nat.le_refl _) rfl (by rw [← HN2.o]; simp [hpos])
          rw [← hn9.o] at h1
          have h3 : (nv2.map NV.n)[0]? = some nv2[0].n := by simp [hll, hpos]
          rw [h3] at h1
          cases h1
          exact h2.a
        obtain ⟨g1, ka1, kc1, rfl, HC1⟩ := node_cells HDX.o hpos
        obtain ⟨g2, ka2, kc2, rfl, HC2⟩ := node_cells hbox.o.doc (k := 0) (by omega)
        have hn42 := hbox.o.doc.n4
        have HC1' := hq (fun W' hb => (HC1 W' hb).2.1)
        have HC2' := hq (fun W' hb => (HC2 W' hb).2.1)
        simp only [Nat.zero_mul, Nat.zero_add] at HC1' HC2'
        rw [h00] at HC2'
        have hp4 : nv[0].n.a ≤ 4096 := by
          have h1 := HTR.o.ok 0 nv[0].n (by rw [← HN2.o]; simp [hpos])
          have h2 := h1.ab
          have h3 := h1.bs
          omega
        have e5 : (((a + nv[0].n.a : Nat) : Int) == (a : Int) + (nv[0].n.a : Int)) = true := by rw [beq_iff_eq]; omega
        clear HC1 HC2 h00 HDX HPT HLR HTR
        generalize ((a + nv[0].n.a : Nat) : Int) = Q at *
        generalize nv[0].n.a = p0 at *
        have e2 : (N == (a : Int) + (b : Int) + (s.size : Int)) = true := by rw [beq_iff_eq, HNN.o]; omega
        have e3 : ((nv.length : Int) == (nv.length : Int)) = true := beq_self_eq_true _
        have e4 : decide ((0 : Int) < (nv.length : Int)) = true := decide_eq_true (by omega)
        have f4 : decide (0 < nv.length) = true := decide_eq_true (by omega)
        have hposz : (0 : Int) < (nv.length : Int) := by omega
        have HBOX := hbox
        rw [hll] at HBOX
        go_wp2_with fail
        refine (HP3.o _ HBX.o).mono ?_
        rintro e W5 ⟨rfl, hb5⟩
        have hb6 := below_trans hb5 (below_alloc W5 (.cells #[.string ⟨#[]⟩, .slice none 0 0] 25))
        have HB6 := hq (below_trans HBX.o hb6)
        have q1 := HC1'.o _ hb6
        have q2 := HC2'.o _ hb6
        have d1 := (HWX.o.grow hb6).at_ 1
        have d2 := (HBOX.o.box.grow hb6).at_ 1
        have HBE := hq (fun n => below_drawnS HB6.o n)
        go_upto_region 12 with fail
        go_big_quiet (fail)
        go_wp2_with fail
        go_ret
        exact ⟨rfl, HBE.o _⟩
end Go.Proofs.YtleabaldjlbnlaaDoor
