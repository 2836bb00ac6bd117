/-
  WALKS: value.walk over whatever is asked; value.Size, value.Depth.
-/
import Derived.Test.YtfibmmmbpfnccaaGreatDoorVtE
namespace Go.Proofs.YtfibmmmbpfnccaaGreatDoor
open Go.RowKit

/-- all blocks but those of a kind are as they were -/
structure Kp (C : Nat → Prop) (w w' : World) : Prop where
  os : w'.os = w.os
  tape : w'.tape = w.tape
  output : w'.output = w.output
  size : w.heap.size ≤ w'.heap.size
  block : ∀ k, k < w.heap.size → ¬ C k → w'.heap[k]? = w.heap[k]?
section
variable {C : Nat → Prop} {w w' w'' : World}
theorem Kp.refl (C : Nat → Prop) (w : World) : Kp C w w := ⟨rfl, rfl, rfl, Nat.le_refl _, fun _ _ _ => rfl⟩
theorem Kp.trans (h : Kp C w w') (h' : Kp C w' w'') : Kp C w w'' :=
  ⟨h'.os.trans h.os, h'.tape.trans h.tape, h'.output.trans h.output, Nat.le_trans h.size h'.size, fun k hk hc => (h'.block k (Nat.lt_of_lt_of_le hk h.size) hc).trans (h.block k hk hc)⟩
theorem Kp.of (h : Below w.heap.size w w') : Kp C w w' := ⟨h.os, h.tape, h.output, h.size, fun k hk _ => h.block k hk⟩
theorem Kp.below {B : Nat} {a : World} (h : Kp C w w') (hB : ∀ k, C k → B ≤ k) (hb : Below B a w) (hs : B ≤ w.heap.size) : Below B a w' :=
  ⟨h.os.trans hb.os, h.tape.trans hb.tape, h.output.trans hb.output, Nat.le_trans hb.size h.size, fun k hk => (h.block k (Nat.lt_of_lt_of_le hk hs) (fun hc => by have := hB k hc; omega)).trans (hb.block k hk)⟩
theorem Kp.whole {g : Nat} {t : TypeId} {cs : Array Value} (h : Kp C w w') (hw : Whole w g t cs) (hg : ¬ C g) : Whole w' g t cs := (h.block g hw.lt hg).trans hw
theorem Kp.mono {C' : Nat → Prop} (h : Kp C w w') (hc : ∀ k, C k → C' k) : Kp C' w w' := ⟨h.os, h.tape, h.output, h.size, fun k hk hn => h.block k hk (fun e => hn (hc k e))⟩
theorem Kp.set (w : World) (p : Addr) (u : Value) (hp : C p.block) : Kp C w (w.setCell p u) :=
  ⟨rfl, rfl, rfl, by simp [World.setCell], fun k _ hn => Below.heap_setCell w p u k (fun e => hn (by rw [e]; exact hp))⟩
end
theorem all_true : ∀ v : Vl, v.All (fun _ => True) := Vl.ind (fun k t ks is ih => .mk k t ks is trivial ih)
theorem visitsL_append (d : Nat) (a b : List Vl) : Vl.visitsL d (a ++ b) = Vl.visitsL d a ++ Vl.visitsL d b := by
  induction a with
  | nil => simp [Vl.visitsL]
  | cons v l ih => simp only [List.cons_append, Vl.visitsL, ih, List.append_assoc]
/-- what is kept between two answers -/
structure Asks (w0 : World) (C : Nat → Prop) (m0 : Nat) (I : List (Vl × Nat) → World → Prop) : Prop where
  c0 : ∀ k, C k → w0.heap.size ≤ k ∧ k < m0
  below : ∀ pre W, I pre W → Below w0.heap.size w0 W ∧ m0 ≤ W.heap.size
  grow : ∀ pre W W', I pre W → Below W.heap.size W W' → I pre W'
def AskPost (C : Nat → Prop) (I : List (Vl × Nat) → World → Prop) (b : Bool) (pre : List (Vl × Nat)) (w : World) (e : Ending) (w' : World) : Prop := e = .returned (.bool b) ∧ I pre w' ∧ Kp C w w'
set_option maxHeartbeats 8000000 in
set_option maxRecDepth 1000000 in
theorem walk_any {w0 : World} {C : Nat → Prop} {m0 F : Nat} {caps : Array Value} {I : List (Vl × Nat) → World → Prop} (Q : Vl → Prop) (hA : Asks w0 C m0 I) (ok : List (Vl × Nat) → Vl × Nat → Bool)
    (hcf : ∀ (args : Array Value) (w : World), (callFunc F args).run Tryz.prog w = .ok (.enter F args) w)
    (hask : ∀ (x : Vt) (d : Nat) (pre : List (Vl × Nat)) (W : World), x.Ok w0 → x.m.All Q → I pre W → d ≤ 4611686018427387904 → pre.length < 4611686018427387904 → Calls Tryz.prog F (#[x.v, .int .i64 (d : Int)] ++ caps) W (AskPost C I (ok pre (x.m, d)) (pre ++ [(x.m, d)]) W)) :
    ∀ (x : Vt) (d : Nat) (pre : List (Vl × Nat)) (W : World), x.Ok w0 → x.m.All Q → I pre W → d + x.m.depth ≤ 4611686018427387904 → pre.length + x.m.size ≤ 4611686018427387904 → Calls Tryz.prog 70 #[x.v, .int .i64 (d : Int), .func (.func F) #[] caps] W (AskPost C I (goV ok pre (x.m.visits d)).1 (goV ok pre (x.m.visits d)).2 W) := Vt.ind (fun k t ks o c is ih d pre W hok hal hI hd hz => by
  obtain ⟨ko, kc, kl⟩ := ks
  have hn := hok.hl
  have hc := hok.hc
  have HASK := hq (fun W' (hI' : I pre W') => hask _ d pre W' hok hal hI' (by omega) (by have := Vl.size_pos (Vt.mk k t ⟨ko, kc, kl⟩ o c is).m; omega))
  unfold maxLen at hc
  rw [Vt.m_mk] at *
  rw [Vt.v_mk'] at *
  simp only at *
  simp only [Vl.visits, Vl.depth, Vl.size] at *
  have hali := Vl.All.items hal
  generalize hX : Vl.mk k t kl (is.map Vt.m) = X at *
  have HP : Hq (∀ (b : Bool) q W', goV ok pre ((X, d) :: Vl.visitsL (d + 1) (is.map Vt.m)) = (b, q) → I q W' → Kp C W W' → AskPost C I (goV ok pre ((X, d) :: Vl.visitsL (d + 1) (is.map Vt.m))).1 (goV ok pre ((X, d) :: Vl.visitsL (d + 1) (is.map Vt.m))).2 W (.returned (.bool b)) W') := hq (fun b q W' h h1 h2 => by rw [h]; exact ⟨rfl, h1, h2⟩)
  have HIH := hq (fun (x : Vt) (hx : x ∈ is) p W' (h : x.Ok w0) (h2 : I p W') (h3 : p.length + x.m.size ≤ 4611686018427387904) => ih x hx (d + 1) p W' h (hali x.m (List.mem_map.2 ⟨x, hx, rfl⟩)) h2 (by have := Vl.depths_le x.m (List.mem_map.2 ⟨x, hx, rfl⟩); omega) h3)
  have HZ := hq hz
  have HG : Hq (goV ok pre ((X, d) :: Vl.visitsL (d + 1) (is.map Vt.m)) = if ok pre (X, d) = true then goV ok (pre ++ [(X, d)]) (Vl.visitsL (d + 1) (is.map Vt.m)) else (false, pre ++ [(X, d)])) := hq rfl
  generalize AskPost C I (goV ok pre ((X, d) :: Vl.visitsL (d + 1) (is.map Vt.m))).1 (goV ok pre ((X, d) :: Vl.visitsL (d + 1) (is.map Vt.m))).2 W = PP at *
  generalize goV ok pre ((X, d) :: Vl.visitsL (d + 1) (is.map Vt.m)) = GV at *
  have hdz : (d : Int) ≤ 4611686018427387904 := by omega
  have hb0 := below_alloc W (.cells #[.int .i64 k, .string (st t), .slice ko kl.length kc, .slice o is.length c] 25)
  have HI0 := hq (hA.grow _ _ _ hI hb0)
  have HW0 := hq (Whole.made W 25 #[.int .i64 k, .string (st t), .slice ko kl.length kc, .slice o is.length c])
  have HB0 := hq (Kp.of (C := C) hb0)
  have HNC : Hq (¬ C W.heap.size) := hq (fun hc => by have h1 := (hA.c0 _ hc).2; have h2 := (hA.below _ _ hI).2; omega)
  have HOK := hq hok
  have HA := hq hA
  clear hok ih hb0 hI hask hd hX hA hz hal hali
  go_enter Tryz.func70, Tryz.ntmps70
  go_upto_region 1 with fail
  generalize W.heap.size = g at HW0 HNC
  generalize (W.alloc (.cells #[.int .i64 k, .string (st t), .slice ko kl.length kc, .slice o is.length c] 25)) = V0 at *
  have hVg := hq (fun wr (hb : Kp C V0 wr) => four_cells (hb.whole HW0.o HNC.o))
  obtain ⟨c0, c1, c2, c3⟩ := hVg.o V0 (Kp.refl _ _)
  go_wp2_with fail
  refine (HASK.o V0 HI0.o).mono ?_
  rintro e w2 ⟨rfl, hI2, hk2⟩
  have HK2 := hq hk2
  clear HASK
  by_cases hok1 : ok pre (X, d) = true
  case neg =>
    have hf : ok pre (X, d) = false := by simpa using hok1
    have HV := hq (HP.o false _ w2 (by rw [HG.o, if_neg hok1]) hI2 (HB0.o.trans HK2.o))
    rw [hf]
    clear HP HG hok1 hf hk2 hI2 HIH
    go_wp2_with fail
    exact HV.o
  case pos =>
    have HG1 := hq (HG.o.trans (if_pos hok1))
    rw [hok1]
    obtain ⟨d0, d1, d2, d3⟩ := hVg.o w2 hk2
    clear HG hok1 c0 c1 c2 c3
    go_wp2_with fail
    clear d0 d1 d2 d3
    have HI2 := hq hI2
    clear hk2 hI2
    go_loopw [16] (fun i wr => ∃ (j : Nat) (q : List (Vl × Nat)), j ≤ is.length ∧ i = .int .i64 (j : Int) ∧ Hq (goV ok (pre ++ [(X, d)]) (Vl.visitsL (d + 1) ((is.take j).map Vt.m)) = (true, q)) ∧ Hq (I q wr) ∧ Hq (Kp C V0 wr)) (fun i _ => is.length - (intOf i).toNat)
    case atStart => exact ⟨0, pre ++ [(X, d)], Nat.zero_le _, rfl, hq rfl, HI2, HK2⟩
    case round =>
      obtain ⟨j, q, hj, rfl, hp, hI3, hk3⟩ := hrel
      obtain ⟨c0, c1, c2, c3⟩ := hVg.o wr hk3.o
      by_cases h : j < is.length
      · have hz : (j : Int) < (is.length : Int) := by omega
        have hbel := (HA.o.below _ _ hI3.o).1
        obtain ⟨b, f, ho, i0, i1, i2, i3⟩ := (HOK.o.grow hbel).at_ j h
        have HC := hq (HIH.o is[j] (List.getElem_mem h) q wr (HOK.o.item j h) hI3.o (by
          have h1 := goV_yes ok _ _ (show (goV ok (pre ++ [(X, d)]) (Vl.visitsL (d + 1) ((is.take j).map Vt.m))).1 = true by rw [hp.o])
          rw [hp.o] at h1
          have h2 := congrArg List.length h1
          have h3 := Vl.visitsL_length (l := (is.take j).map Vt.m) (d := d + 1) (fun x _ => x.visits_length _)
          have h4 := sizes_take h
          have h5 := sizes_part is (j + 1)
          have h6 := HZ.o
          rw [List.length_append, h3, List.length_append] at h2
          simp only [List.length_singleton] at h2
          omega))
        have HT : Hq (Vl.visitsL (d + 1) ((is.take (j + 1)).map Vt.m) = Vl.visitsL (d + 1) ((is.take j).map Vt.m) ++ is[j].m.visits (d + 1)) := hq (by
          rw [List.take_succ_eq_append_getElem h, List.map_append, visitsL_append]; simp [Vl.visitsL])
        have HR : Hq (Vl.visitsL (d + 1) (is.map Vt.m) = Vl.visitsL (d + 1) ((is.take (j + 1)).map Vt.m) ++ Vl.visitsL (d + 1) ((is.drop (j + 1)).map Vt.m)) := hq (by
          rw [← visitsL_append, ← List.map_append, List.take_append_drop])
        have HN : Hq (goV ok (pre ++ [(X, d)]) (Vl.visitsL (d + 1) ((is.take (j + 1)).map Vt.m)) = goV ok q (is[j].m.visits (d + 1))) := hq (by
          rw [HT.o, goV_append, hp.o]; rfl)
        have HF : Hq ((goV ok q (is[j].m.visits (d + 1))).1 = false → GV = goV ok q (is[j].m.visits (d + 1))) := hq (fun h1 => by
          rw [HG1.o, HR.o, goV_append, HN.o, if_neg (by rw [h1]; simp)])
        clear HIH HT HR hp hI3 hbel
        generalize is[j] = x at *
        generalize hGJ : goV ok q (x.m.visits (d + 1)) = GJ at *
        obtain ⟨gb, gq⟩ := GJ
        clear hGJ
        simp only at HC HF
        have hd1 : ((d + 1 : Nat) : Int) = (d : Int) + 1 := by omega
        rw [hd1] at HC
        clear hd1
        subst ho
        go_wp2_with fail
        refine HC.o.mono ?_
        rintro e w3 ⟨rfl, hI4, hk4⟩
        have HK4 := hq (hk3.o.trans hk4)
        have HI4 := hq hI4
        clear hI4 hk4 hk3 HC c0 c1 c2 c3 i0 i1 i2 i3
        cases gb with
        | true =>
          clear HF
          go_wp2_with fail
          go_roundw
          case rel => exact ⟨j + 1, gq, h, int_eq (by omega), HN, HI4, HK4⟩
          case measure => simp [intOf]; omega
        | false =>
          have HV := hq (HP.o false gq w3 (HF.o rfl) HI4.o (HB0.o.trans HK4.o))
          clear HF HP HN HI4
          go_wp2_with fail
          exact HV.o
      · have hz : ¬ (j : Int) < (is.length : Int) := by omega
        have HV := hq (HP.o true q wr (by
          have h1 := hp.o
          rw [List.take_of_length_le (by omega)] at h1
          rw [HG1.o, h1]) hI3.o (HB0.o.trans hk3.o))
        clear HP HIH hp hI3
        go_wp2_with fail
        exact HV.o)

theorem one_cell {w : World} {g : Nat} {t : TypeId} {a : Value} (h : Whole w g t #[a]) : w.cell? ⟨g, 0, none⟩ = some a := h.at_ 0
/-- a count in a box -/
def CntI (w0 : World) (g : Nat) (pre : List (Vl × Nat)) (W : World) : Prop := Below w0.heap.size w0 W ∧ Whole W g 3 #[.int .i64 (pre.length : Int)]
theorem cnt_asks (w0 : World) (g : Nat) (h : w0.heap.size ≤ g) : Asks w0 (fun k => k = g) (g + 1) (CntI w0 g) where
  c0 k hk := by subst hk; omega
  below pre W hI := ⟨hI.1, hI.2.lt⟩
  grow pre W W' hI hb := ⟨hI.1.trans (hb.mono hI.1.size), hI.2.grow hb⟩
theorem CntI.step {w0 W V0 : World} {g : Nat} {pre : List (Vl × Nat)} (h : CntI w0 g pre W) (hg0 : w0.heap.size ≤ g) (hb : Below W.heap.size W V0) (y : Vl × Nat) {m : Int} (hm : m = (pre.length : Int) + 1) : CntI w0 g (pre ++ [y]) (V0.setCell ⟨g, 0, none⟩ (.int .i64 m)) ∧ Kp (fun k => k = g) W (V0.setCell ⟨g, 0, none⟩ (.int .i64 m)) := by
  have hk : Kp (fun k => k = g) W (V0.setCell ⟨g, 0, none⟩ (.int .i64 m)) := (Kp.of hb).trans (Kp.set V0 _ _ rfl)
  refine ⟨⟨hk.below (fun k hk => by subst hk; exact hg0) h.1 h.1.size, ?_⟩, hk⟩
  have h1 := (h.2.grow hb).put 0 (.int .i64 m)
  have e : (#[Value.int .i64 (pre.length : Int)]).setIfInBounds 0 (.int .i64 m) = #[.int .i64 ((pre ++ [y]).length : Int)] := by
    rw [List.length_append, List.length_singleton, hm]; rfl
  rw [e] at h1
  exact h1
set_option maxHeartbeats 4000000 in
set_option maxRecDepth 1000000 in
theorem size1_any (w0 : World) (g : Nat) (hg0 : w0.heap.size ≤ g) (x : Vt) (d : Nat) (pre : List (Vl × Nat)) (W : World) (hI : CntI w0 g pre W) (hl : pre.length < 4611686018427387904) :
    Calls Tryz.prog 71 #[x.v, .int .i64 (d : Int), .pointer (some ⟨g, 0, none⟩)] W (AskPost (fun k => k = g) (CntI w0 g) (decide (pre.length + 1 ≤ 1048576)) (pre ++ [(x.m, d)]) W) := by
  have HP : Hq (∀ (b : Bool) W', b = decide ((pre.length : Int) + 1 ≤ 1048576) → CntI w0 g (pre ++ [(x.m, d)]) W' → Kp (fun k => k = g) W W' → AskPost (fun k => k = g) (CntI w0 g) (decide (pre.length + 1 ≤ 1048576)) (pre ++ [(x.m, d)]) W (.returned (.bool b)) W') := hq (fun b W' h h1 h2 => by
    have e : decide ((pre.length : Int) + 1 ≤ 1048576) = decide (pre.length + 1 ≤ 1048576) := decide_eq_decide.2 (by omega)
    rw [h, e]; exact ⟨rfl, h1, h2⟩)
  generalize AskPost (fun k => k = g) (CntI w0 g) (decide (pre.length + 1 ≤ 1048576)) (pre ++ [(x.m, d)]) W = PP at *
  have hb0 := below_alloc W (.cells #[.int .i64 x.k, .string (st x.t), x.ks.v, x.row] 25)
  have HI := hq hI
  have HB0 := hq hb0
  have c0 := one_cell (hI.2.grow hb0)
  have hf := (hI.2.grow hb0).free 0
  clear hI hb0
  unfold Vt.v
  go_enter Tryz.func71, Tryz.ntmps71
  go_upto_region 1 with fail
  generalize (W.alloc (.cells #[.int .i64 x.k, .string (st x.t), x.ks.v, x.row] 25)) = V0 at *
  go_upto_region 2 with fail
  obtain ⟨hI1, hk1⟩ := HI.o.step hg0 HB0.o (x.m, d) (m := (pre.length : Int) + 1) rfl
  have HV := hq (HP.o _ _ rfl hI1 hk1)
  have d0 := one_cell hI1.2
  rw [show (((pre ++ [(x.m, d)]).length : Nat) : Int) = (pre.length : Int) + 1 by rw [List.length_append, List.length_singleton]; omega] at d0
  clear hI1 hk1 c0 hf HP
  generalize V0.setCell ⟨g, 0, none⟩ (.int .i64 ((pre.length : Int) + 1)) = V1 at *
  go_wp2_with fail
  exact HV.o
theorem enter_size1 (args : Array Value) (w : World) : (callFunc 71 args).run Tryz.prog w = .ok (.enter 71 args) w := by kernel_rfl
theorem goV_cnt (N : Nat) (v : Vl) (d : Nat) (h : v.size ≤ N) : goV (fun pre _ => decide (pre.length + 1 ≤ N)) [] (v.visits d) = (true, v.visits d) := by
  have h1 : (goV (fun pre _ => decide (pre.length + 1 ≤ N)) [] (v.visits d)).1 = true := (goV_all _ _ _).2 (fun i hi => by
    have := v.visits_length d
    simp only [List.nil_append, List.length_take, decide_eq_true_eq]
    omega)
  have h2 := goV_yes _ _ _ h1
  rw [List.nil_append] at h2
  exact Prod.ext h1 h2
set_option maxHeartbeats 4000000 in
set_option maxRecDepth 1000000 in
theorem vsize_any (x : Vt) (w : World) (hok : x.Ok w) (hs : x.m.size ≤ 1048576) : Calls Tryz.prog 25 #[x.v] w (IPost (x.m.size : Int) w) := by
  have hb0 := below_alloc w (.cells #[.int .i64 x.k, .string (st x.t), x.ks.v, x.row] 25)
  have hw0 := Whole.made w 25 #[.int .i64 x.k, .string (st x.t), x.ks.v, x.row]
  have HOK := hq (hok.grow hb0)
  have HP : Hq (∀ (m : Int) W', m = (x.m.size : Int) → Below w.heap.size w W' → IPost (x.m.size : Int) w (.returned (.int .i64 m)) W') := hq (fun m W' h h2 => ⟨by rw [h], h2⟩)
  have HDP := hq x.m.depth_size
  generalize IPost (x.m.size : Int) w = PP at *
  unfold Vt.v
  go_enter Tryz.func25, Tryz.ntmps25
  go_upto_region 1 with fail
  generalize w.heap.size = n0 at hw0
  generalize (w.alloc (.cells #[.int .i64 x.k, .string (st x.t), x.ks.v, x.row] 25)) = V0 at *
  go_upto_region 2 with fail
  have hb1 := below_alloc V0 (.cells #[.int .i64 0] 3)
  have hI1 : CntI V0 V0.heap.size [] (V0.alloc (.cells #[.int .i64 0] 3)) := ⟨hb1, Whole.made V0 3 #[.int .i64 0]⟩
  obtain ⟨c0, c1, c2, c3⟩ := four_cells (hw0.grow hb1)
  have HC := hq (walk_any (fun _ => True) (cnt_asks V0 V0.heap.size (Nat.le_refl _)) (fun pre _ => decide (pre.length + 1 ≤ 1048576)) enter_size1 (caps := #[.pointer (some ⟨V0.heap.size, 0, none⟩)]) (fun y d pre W hy _ hI hd hl => size1_any V0 _ (Nat.le_refl _) y d pre W hI hl) x 1 [] _ HOK.o (all_true _) hI1 (by have := HDP.o; omega) (by simp only [List.length_nil]; omega))
  rw [goV_cnt 1048576 x.m 1 hs] at HC
  have HV1 := hq hb1
  have HB0 := hq hb0
  clear hI1 hb1 hb0 hw0 HOK
  generalize (V0.alloc (.cells #[.int .i64 0] 3)) = V1 at *
  generalize hg : V0.heap.size = g at *
  have hgs : g ≤ V0.heap.size := by omega
  clear hg
  go_wp2_with fail
  refine HC.o.mono ?_
  rintro e w2 ⟨rfl, hI2, hk2⟩
  have d0 := one_cell hI2.2
  have HV := hq (HP.o _ w2 (show ((x.m.visits 1).length : Int) = _ by rw [Vl.visits_length]) (HB0.o.trans (hI2.1.mono HB0.o.size)))
  clear hk2 hI2 HC HP HB0 HV1 HDP
  go_wp2_with fail
  exact HV.o
/-- a count in a box, and how deep in another -/
structure DepI (w0 : World) (g h : Nat) (pre : List (Vl × Nat)) (W : World) : Prop where
  bl : Below w0.heap.size w0 W
  cn : Whole W g 3 #[.int .i64 (pre.length : Int)]
  dp : Whole W h 3 #[.int .i64 (deepest pre : Int)]
theorem dep_asks (w0 : World) (g h : Nat) (hg : w0.heap.size ≤ g) (hh : g < h) : Asks w0 (fun k => k = g ∨ k = h) (h + 1) (DepI w0 g h) where
  c0 k hk := by rcases hk with rfl | rfl <;> omega
  below pre W hI := ⟨hI.bl, hI.dp.lt⟩
  grow pre W W' hI hb := ⟨hI.bl.trans (hb.mono hI.bl.size), hI.cn.grow hb, hI.dp.grow hb⟩
theorem DepI.step {w0 W V0 : World} {g h : Nat} {pre : List (Vl × Nat)} (hI : DepI w0 g h pre W) (hg0 : w0.heap.size ≤ g) (hgh : g < h) (hb : Below W.heap.size W V0) (y : Vl × Nat) {m q : Int} (hm : m = (pre.length : Int) + 1) (hq : q = max (deepest pre : Int) (y.2 : Int)) :
    DepI w0 g h (pre ++ [y]) ((V0.setCell ⟨g, 0, none⟩ (.int .i64 m)).setCell ⟨h, 0, none⟩ (.int .i64 q)) ∧ Kp (fun k => k = g ∨ k = h) W ((V0.setCell ⟨g, 0, none⟩ (.int .i64 m)).setCell ⟨h, 0, none⟩ (.int .i64 q)) := by
  have hk : Kp (fun k => k = g ∨ k = h) W ((V0.setCell ⟨g, 0, none⟩ (.int .i64 m)).setCell ⟨h, 0, none⟩ (.int .i64 q)) := ((Kp.of hb).trans (Kp.set V0 _ _ (.inl rfl))).trans (Kp.set _ _ _ (.inr rfl))
  refine ⟨⟨hk.below (fun k hk => by rcases hk with rfl | rfl <;> omega) hI.bl hI.bl.size, ?_, ?_⟩, hk⟩
  · have h1 := ((hI.cn.grow hb).put 0 (.int .i64 m)).far (p := ⟨h, 0, none⟩) (show g ≠ h by omega) (.int .i64 q)
    have e : (#[Value.int .i64 (pre.length : Int)]).setIfInBounds 0 (.int .i64 m) = #[.int .i64 ((pre ++ [y]).length : Int)] := by
      rw [List.length_append, List.length_singleton, hm]; rfl
    rw [e] at h1
    exact h1
  · have h1 := ((hI.dp.grow hb).far (p := ⟨g, 0, none⟩) (show h ≠ g by omega) (.int .i64 m)).put 0 (.int .i64 q)
    have e : (#[Value.int .i64 (deepest pre : Int)]).setIfInBounds 0 (.int .i64 q) = #[.int .i64 (deepest (pre ++ [y]) : Int)] := by
      have h2 : deepest (pre ++ [y]) = max (deepest pre) y.2 := by rw [deepest_append, deepest_cons]; simp [deepest]
      rw [h2, hq]
      have h3 : ((max (deepest pre) y.2 : Nat) : Int) = max (deepest pre : Int) (y.2 : Int) := by omega
      rw [h3]; rfl
    rw [e] at h1
    exact h1
set_option maxHeartbeats 4000000 in
set_option maxRecDepth 1000000 in
theorem depth1_any (w0 : World) (g h : Nat) (hg0 : w0.heap.size ≤ g) (hgh : g < h) (x : Vt) (d : Nat) (pre : List (Vl × Nat)) (W : World) (hI : DepI w0 g h pre W) (_hd : d ≤ 4611686018427387904) (hl : pre.length < 4611686018427387904) :
    Calls Tryz.prog 72 #[x.v, .int .i64 (d : Int), .pointer (some ⟨g, 0, none⟩), .pointer (some ⟨h, 0, none⟩)] W (AskPost (fun k => k = g ∨ k = h) (DepI w0 g h) (decide (pre.length + 1 ≤ 1048576)) (pre ++ [(x.m, d)]) W) := by
  have HP : Hq (∀ (b : Bool) W', b = decide ((pre.length : Int) + 1 ≤ 1048576) → DepI w0 g h (pre ++ [(x.m, d)]) W' → Kp (fun k => k = g ∨ k = h) W W' → AskPost (fun k => k = g ∨ k = h) (DepI w0 g h) (decide (pre.length + 1 ≤ 1048576)) (pre ++ [(x.m, d)]) W (.returned (.bool b)) W') := hq (fun b W' h h1 h2 => by
    have e : decide ((pre.length : Int) + 1 ≤ 1048576) = decide (pre.length + 1 ≤ 1048576) := decide_eq_decide.2 (by omega)
    rw [h, e]; exact ⟨rfl, h1, h2⟩)
  generalize AskPost (fun k => k = g ∨ k = h) (DepI w0 g h) (decide (pre.length + 1 ≤ 1048576)) (pre ++ [(x.m, d)]) W = PP at *
  have hb0 := below_alloc W (.cells #[.int .i64 x.k, .string (st x.t), x.ks.v, x.row] 25)
  have HI := hq hI
  have HB0 := hq hb0
  have c0 := one_cell (hI.cn.grow hb0)
  have hf := (hI.cn.grow hb0).free 0
  have c1 := one_cell (hI.dp.grow hb0)
  have hf1 := (hI.dp.grow hb0).free 0
  have HW1 := hq (hI.dp.grow hb0)
  clear hI hb0
  unfold Vt.v
  go_enter Tryz.func72, Tryz.ntmps72
  go_upto_region 1 with fail
  generalize (W.alloc (.cells #[.int .i64 x.k, .string (st x.t), x.ks.v, x.row] 25)) = V0 at *
  go_upto_region 2 with fail
  have e1 := one_cell (HW1.o.far (p := ⟨g, 0, none⟩) (show h ≠ g by omega) (.int .i64 ((pre.length : Int) + 1)))
  have f1 := (HW1.o.far (p := ⟨g, 0, none⟩) (show h ≠ g by omega) (.int .i64 ((pre.length : Int) + 1))).free 0
  go_upto_region 3 with fail
  obtain ⟨hI1, hk1⟩ := HI.o.step hg0 hgh HB0.o (x.m, d) (m := (pre.length : Int) + 1) (q := if deepest pre < d then (d : Int) else (deepest pre : Int)) rfl (by simp only; split <;> omega)
  have HV := hq (HP.o _ _ rfl hI1 hk1)
  have d0 := one_cell hI1.cn
  rw [show (((pre ++ [(x.m, d)]).length : Nat) : Int) = (pre.length : Int) + 1 by rw [List.length_append, List.length_singleton]; omega] at d0
  clear hI1 hk1 c0 hf HP c1 hf1 e1 f1
  generalize (V0.setCell ⟨g, 0, none⟩ (.int .i64 ((pre.length : Int) + 1))).setCell ⟨h, 0, none⟩ (.int .i64 (if deepest pre < d then (d : Int) else (deepest pre : Int))) = V1 at *
  go_wp2_with fail
  all_goals exact HV.o
theorem enter_depth1 (args : Array Value) (w : World) : (callFunc 72 args).run Tryz.prog w = .ok (.enter 72 args) w := by kernel_rfl
set_option maxHeartbeats 4000000 in
set_option maxRecDepth 1000000 in
theorem vdepth_any (x : Vt) (w : World) (hok : x.Ok w) (hs : x.m.size ≤ 1048576) : Calls Tryz.prog 27 #[x.v] w (IPost (x.m.depth : Int) w) := by
  have hb0 := below_alloc w (.cells #[.int .i64 x.k, .string (st x.t), x.ks.v, x.row] 25)
  have hw0 := Whole.made w 25 #[.int .i64 x.k, .string (st x.t), x.ks.v, x.row]
  have HOK := hq (hok.grow hb0)
  have HP : Hq (∀ (m : Int) W', m = (x.m.depth : Int) → Below w.heap.size w W' → IPost (x.m.depth : Int) w (.returned (.int .i64 m)) W') := hq (fun m W' h h2 => ⟨by rw [h], h2⟩)
  have HDP := hq x.m.depth_size
  have HDE : Hq (deepest (x.m.visits 1) = x.m.depth) := hq (by rw [deepest_visits]; omega)
  generalize IPost (x.m.depth : Int) w = PP at *
  unfold Vt.v
  go_enter Tryz.func27, Tryz.ntmps27
  go_upto_region 1 with fail
  generalize w.heap.size = n0 at hw0
  generalize (w.alloc (.cells #[.int .i64 x.k, .string (st x.t), x.ks.v, x.row] 25)) = V0 at *
  go_upto_region 2 with fail
  obtain ⟨hb1, hW1, hW2⟩ := two_boxes V0 3 #[.int .i64 0] #[.int .i64 0]
  have hI1 : DepI V0 V0.heap.size (V0.heap.size + 1) [] ((V0.alloc (.cells #[.int .i64 0] 3)).alloc (.cells #[.int .i64 0] 3)) := ⟨hb1, hW1, hW2⟩
  obtain ⟨c0, c1, c2, c3⟩ := four_cells (hw0.grow hb1)
  have HC := hq (walk_any (fun _ => True) (dep_asks V0 V0.heap.size (V0.heap.size + 1) (Nat.le_refl _) (by omega)) (fun pre _ => decide (pre.length + 1 ≤ 1048576)) enter_depth1 (caps := #[.pointer (some ⟨V0.heap.size, 0, none⟩), .pointer (some ⟨V0.heap.size + 1, 0, none⟩)]) (fun y d pre W hy _ hI hd hl => depth1_any V0 _ _ (Nat.le_refl _) (by omega) y d pre W hI hd hl) x 1 [] _ HOK.o (all_true _) hI1 (by have := HDP.o; omega) (by simp only [List.length_nil]; omega))
  rw [goV_cnt 1048576 x.m 1 hs] at HC
  have HB0 := hq hb0
  clear hI1 hb1 hb0 hw0 HOK hW1 hW2
  generalize ((V0.alloc (.cells #[.int .i64 0] 3)).alloc (.cells #[.int .i64 0] 3)) = V1 at *
  go_wp2_with fail
  refine HC.o.mono ?_
  rintro e w2 ⟨rfl, hI2, hk2⟩
  have e0 := one_cell hI2.dp
  rw [HDE.o] at e0
  have HV := hq (HP.o _ w2 rfl (HB0.o.trans (hI2.bl.mono HB0.o.size)))
  clear hk2 hI2 HC HP HB0 HDP HDE c0 c1 c2 c3
  go_wp2_with fail
  exact HV.o
end Go.Proofs.YtfibmmmbpfnccaaGreatDoor
