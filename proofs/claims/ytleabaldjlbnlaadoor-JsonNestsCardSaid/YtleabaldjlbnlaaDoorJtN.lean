/-
  WALK: the law JsonNests.
-/
import Derived.Test.YtleabaldjlbnlaaDoorJtS
import Derived.Deep.LoopGhost
namespace Go.Proofs.YtleabaldjlbnlaaDoor
open Go.RowKit

theorem nest_texts (s : ByteArray) (h4 : s.size ≤ 2048) {ns : List JN} (h : jparseM s = .inr ns) : (∃ cs bs, jparseM (⟨#[91]⟩ ++ s ++ ⟨#[93]⟩) = .inr cs ∧ jparseM (⟨#[123, 34, 97, 34, 58]⟩ ++ s ++ ⟨#[125]⟩) = .inr bs ∧ Nest 1 5 ns cs ∧ Nest 5 6 ns bs) ∨ ∃ n m, 1 ≤ n ∧ 5 ≤ m ∧ jparseM (⟨#[91]⟩ ++ s ++ ⟨#[93]⟩) = .inl (n, 5) ∧ jparseM (⟨#[123, 34, 97, 34, 58]⟩ ++ s ++ ⟨#[125]⟩) = .inl (m, 5) := by
  have a0 : (⟨#[91]⟩ : ByteArray).size = 1 := rfl
  have b0 : (⟨#[123, 34, 97, 34, 58]⟩ : ByteArray).size = 5 := rfl
  have c0 : (⟨#[93]⟩ : ByteArray).size = 1 := rfl
  have d0 : (⟨#[125]⟩ : ByteArray).size = 1 := rfl
  have a1 : (⟨#[91]⟩ ++ s : ByteArray).size = 1 + s.size := by rw [ByteArray.size_append, a0]
  have b1 : (⟨#[123, 34, 97, 34, 58]⟩ ++ s : ByteArray).size = 5 + s.size := by rw [ByteArray.size_append, b0]
  have a2 : (⟨#[91]⟩ ++ s ++ ⟨#[93]⟩ : ByteArray).size = s.size + 2 := by rw [ByteArray.size_append, a1, c0]; omega
  have b2 : (⟨#[123, 34, 97, 34, 58]⟩ ++ s ++ ⟨#[125]⟩ : ByteArray).size = s.size + 6 := by rw [ByteArray.size_append, b1, d0]; omega
  have bh : ∀ j, j < 5 → byt (⟨#[123, 34, 97, 34, 58]⟩ ++ s ++ ⟨#[125]⟩) j = byt ⟨#[123, 34, 97, 34, 58]⟩ j := fun j hj => by rw [byt_left _ _ _ (by omega), byt_left _ _ _ (by rw [b0]; exact hj)]
  refine nest_both h fun l hl hv => ⟨nest_arr a2 ?_ (fun j hj => ?_) ?_ h4 hl hv, nest_obj b2 ?_ ?_ ?_ ?_ ?_ (fun j hj => ?_) ?_ h4 hl hv⟩
  · rw [byt_left _ _ _ (by omega), byt_left _ _ _ (by rw [a0]; omega)]; rfl
  · rw [byt_left _ _ _ (by omega)]
    have := byt_right ⟨#[91]⟩ s j hj
    rwa [a0] at this
  · have := byt_right (⟨#[91]⟩ ++ s) ⟨#[93]⟩ 0 (by decide)
    rw [a1, Nat.add_zero] at this
    rw [this]; rfl
  · rw [bh 0 (by omega)]; rfl
  · rw [bh 1 (by omega)]; rfl
  · rw [bh 2 (by omega)]; rfl
  · rw [bh 3 (by omega)]; rfl
  · rw [bh 4 (by omega)]; rfl
  · rw [byt_left _ _ _ (by omega)]
    have := byt_right ⟨#[123, 34, 97, 34, 58]⟩ s j hj
    rwa [b0] at this
  · have := byt_right (⟨#[123, 34, 97, 34, 58]⟩ ++ s) ⟨#[125]⟩ 0 (by decide)
    rw [b1, Nat.add_zero] at this
    rw [this]; rfl
theorem nest_sizes (s : ByteArray) : (⟨#[91]⟩ ++ s ++ ⟨#[93]⟩ : ByteArray).size = s.size + 2 ∧ (⟨#[123, 34, 97, 34, 58]⟩ ++ s ++ ⟨#[125]⟩ : ByteArray).size = s.size + 6 := by
  constructor
  · rw [ByteArray.size_append, ByteArray.size_append]; show 1 + s.size + 1 = _; omega
  · rw [ByteArray.size_append, ByteArray.size_append]; show 5 + s.size + 1 = _; omega
set_option maxHeartbeats 1000000 in
set_option maxRecDepth 1000000 in
theorem jnests_any (s : ByteArray) (W : World) (hT : tabs W) (hs : s.size ≤ maxLen) :
    Calls Tryd.prog 8 #[.string s] W fun e W' => e = .returned (.bool true) ∧ Below W.heap.size W W' := by
  have HS := hq (jsmall_any W hT)
  have HPA := hq (fun t WW (hb : Below W.heap.size W WW) (ht : t.size ≤ maxLen) => jparse_any t WW (tabs_grow hT hb) ht)
  clear hT
  unfold maxLen at hs
  go_enter Tryd.func8, Tryd.ntmps8
  go_wp2_with fail
  refine HS.o.mono ?_
  rintro e W1 ⟨rfl, hb1⟩
  have HB1 := hq hb1
  clear hb1 HS
  by_cases hbig : 2048 < s.size
  · have hz1 : (2048 : Int) < (s.size : Int) := by omega
    clear HPA
    go_wp2_with fail
    go_ret
    exact ⟨rfl, HB1.o⟩
  · have hz1 : ¬ (2048 : Int) < (s.size : Int) := by omega
    obtain ⟨z1, z2⟩ := nest_sizes s
    have HP0 := hq (fun WW hb => HPA.o s WW hb (by unfold maxLen; omega))
    have HP1 := hq (fun WW hb => HPA.o (⟨#[91]⟩ ++ s ++ ⟨#[93]⟩) WW hb (by rw [z1]; unfold maxLen; omega))
    have HP2 := hq (fun WW hb => HPA.o (⟨#[123, 34, 97, 34, 58]⟩ ++ s ++ ⟨#[125]⟩) WW hb (by rw [z2]; unfold maxLen; omega))
    have HN := hq (fun ns => @nest_texts s (by omega) ns)
    clear HPA z1 z2
    have hl1 : (⟨#[91]⟩ : ByteArray).size + s.size ≤ 9223372036854775807 := by show 1 + s.size ≤ _; omega
    have hl2 : (⟨#[123, 34, 97, 34, 58]⟩ : ByteArray).size + s.size ≤ 9223372036854775807 := by show 5 + s.size ≤ _; omega
    cases hpm : jparseM s with
    | inl e =>
      obtain ⟨wh, er⟩ := e
      have herb : (er != 0) = true := bne_iff_ne.2 (jparseM_er hpm)
      have HPQ : Hq (∀ WW, Below W.heap.size W WW → Calls Tryd.prog 11 #[.string s] WW fun e W' => e = .returned (.tuple #[.agg #[.string ⟨#[]⟩, .slice none 0 0], .int .i64 (wh : Int), .int .i64 er]) ∧ Below WW.heap.size WW W') := hq (fun WW hb => (HP0.o WW hb).mono fun e w h => by unfold JParsePost at h; rw [hpm] at h; exact h)
      have HW1 := hq (fun WW hb => (HP1.o WW hb).mono fun e w h => jparse_weak h)
      have HW2 := hq (fun WW hb => (HP2.o WW hb).mono fun e w h => jparse_weak h)
      clear HP0 HP1 HP2 hpm HN
      go_wp2_with fail
      refine (HPQ.o _ HB1.o).mono ?_
      rintro e W2 ⟨rfl, hb2⟩
      have HB2 := hq (below_trans (below_trans HB1.o hb2) (below_alloc W2 (.cells #[.string ⟨#[]⟩, .slice none 0 0] 25)))
      clear hb2
      go_wp2_with fail
      refine (HW1.o _ HB2.o).mono ?_
      rintro e W3 ⟨sx, o1, l1, c1, n1, e1, rfl, hb3⟩
      have HB3 := hq (below_trans (below_trans HB2.o hb3) (below_alloc W3 (.cells #[.string sx, .slice o1 l1 c1] 25)))
      clear hb3
      go_wp2_with fail
      refine (HW2.o _ HB3.o).mono ?_
      rintro e W4 ⟨sy, o2, l2, c2, n2, e2, rfl, hb4⟩
      have HB4 := hq (below_trans (below_trans HB3.o hb4) (below_alloc W4 (.cells #[.string sy, .slice o2 l2 c2] 25)))
      clear hb4
      go_wp2_with fail
      go_ret
      exact ⟨rfl, HB4.o⟩
    | inr ns =>
      have HPQ : Hq (∀ WW, Below W.heap.size W WW → Calls Tryd.prog 11 #[.string s] WW fun e W' => ∃ nv vN, e = .returned (.tuple #[.agg #[.string s, vN], .int .i64 (s.size : Int), .int .i64 0]) ∧ DocIn WW.heap.size nv vN W' ∧ nv.map NV.n = ns ∧ Below WW.heap.size WW W') := hq (fun WW hb => (HP0.o WW hb).mono fun e w h => by unfold JParsePost at h; rw [hpm] at h; exact h)
      rcases HN.o ns hpm with ⟨cs, bs, hpc, hpb, hcs, hbs⟩ | ⟨n, m, hn, hm, hpc, hpb⟩
      · have HTR := hq (jparseM_whole hpm)
        have HW1 : Hq (∀ WW, Below W.heap.size W WW → Calls Tryd.prog 11 #[.string (⟨#[91]⟩ ++ s ++ ⟨#[93]⟩)] WW fun e W' => ∃ nv vN n, e = .returned (.tuple #[.agg #[.string (⟨#[91]⟩ ++ s ++ ⟨#[93]⟩), vN], .int .i64 n, .int .i64 0]) ∧ DocIn WW.heap.size nv vN W' ∧ nv.map NV.n = cs ∧ Below WW.heap.size WW W') := hq (fun WW hb => (HP1.o WW hb).mono fun e w h => by unfold JParsePost at h; rw [hpc] at h; obtain ⟨nv, vN, h1, h2⟩ := h; exact ⟨nv, vN, _, h1, h2⟩)
        have HW2 : Hq (∀ WW, Below W.heap.size W WW → Calls Tryd.prog 11 #[.string (⟨#[123, 34, 97, 34, 58]⟩ ++ s ++ ⟨#[125]⟩)] WW fun e W' => ∃ nv vN n, e = .returned (.tuple #[.agg #[.string (⟨#[123, 34, 97, 34, 58]⟩ ++ s ++ ⟨#[125]⟩), vN], .int .i64 n, .int .i64 0]) ∧ DocIn WW.heap.size nv vN W' ∧ nv.map NV.n = bs ∧ Below WW.heap.size WW W') := hq (fun WW hb => (HP2.o WW hb).mono fun e w h => by unfold JParsePost at h; rw [hpb] at h; obtain ⟨nv, vN, h1, h2⟩ := h; exact ⟨nv, vN, _, h1, h2⟩)
        have HCS := hq hcs
        have HBS := hq hbs
        clear HP0 HP1 HP2 hpm HN hpc hpb hcs hbs
        go_wp2_with fail
        refine (HPQ.o _ HB1.o).mono ?_
        rintro e W2 ⟨nv1, vN, rfl, hd2, hn2, hb2⟩
        obtain ⟨na, nc, rfl⟩ := row_shape hd2.nd
        have hb3 := below_alloc W2 (.cells #[.string s, .slice na nv1.length nc] 25)
        have HX1 := hq (DocBox.mk (B := W1.heap.size) (Whole.made W2 25 #[.string s, .slice na nv1.length nc]) (hd2.grow hb3) (below_trans hb2 hb3))
        have HN1 := hq hn2
        have HB2 := hq (below_trans (below_trans HB1.o hb2) hb3)
        have hn14 := hd2.n4
        go_upto_region 5 with fail
        clear hb2 hb3 hd2 hn2
        generalize W2.heap.size = b1 at *
        generalize W2.alloc (.cells #[.string s, .slice na nv1.length nc] 25) = W3 at *
        go_wp2_with fail
        refine (HW1.o _ HB2.o).mono ?_
        rintro e W4 ⟨nv2, vN, n1, rfl, hd2, hn2, hb2⟩
        obtain ⟨ma, mc, rfl⟩ := row_shape hd2.nd
        have hb3 := below_alloc W4 (.cells #[.string (⟨#[91]⟩ ++ s ++ ⟨#[93]⟩), .slice ma nv2.length mc] 25)
        have HX2 := hq (DocBox.mk (B := W3.heap.size) (Whole.made W4 25 #[.string (⟨#[91]⟩ ++ s ++ ⟨#[93]⟩), .slice ma nv2.length mc]) (hd2.grow hb3) (below_trans hb2 hb3))
        have HN2 := hq hn2
        have HB4 := hq (below_trans HB2.o (below_trans hb2 hb3))
        have HX14 := hq (HX1.o.grow (below_trans hb2 hb3))
        go_upto_region 6 with fail
        clear hb2 hb3 hd2 hn2 HX1
        generalize W4.heap.size = b2 at *
        generalize W4.alloc (.cells #[.string (⟨#[91]⟩ ++ s ++ ⟨#[93]⟩), .slice ma nv2.length mc] 25) = W5 at *
        go_wp2_with fail
        refine (HW2.o _ HB4.o).mono ?_
        rintro e W6 ⟨nv3, vN, n2, rfl, hd2, hn2, hb2⟩
        obtain ⟨qa, qc, rfl⟩ := row_shape hd2.nd
        have hb3 := below_alloc W6 (.cells #[.string (⟨#[123, 34, 97, 34, 58]⟩ ++ s ++ ⟨#[125]⟩), .slice qa nv3.length qc] 25)
        have HX3 := hq (DocBox.mk (B := W5.heap.size) (Whole.made W6 25 #[.string (⟨#[123, 34, 97, 34, 58]⟩ ++ s ++ ⟨#[125]⟩), .slice qa nv3.length qc]) (hd2.grow hb3) (below_trans hb2 hb3))
        have HN3 := hq hn2
        have HB6 := hq (below_trans HB4.o (below_trans hb2 hb3))
        have HX16 := hq (HX14.o.grow (below_trans hb2 hb3))
        have HX26 := hq (HX2.o.grow (below_trans hb2 hb3))
        go_upto_region 7 with fail
        clear hb2 hb3 hd2 hn2 HX14 HX2
        generalize W6.heap.size = b3 at *
        generalize W6.alloc (.cells #[.string (⟨#[123, 34, 97, 34, 58]⟩ ++ s ++ ⟨#[125]⟩), .slice qa nv3.length qc] 25) = W7 at *
        have hl2 : nv2.length = nv1.length + 1 := by
          have h1 := HCS.o.ln
          rwa [← HN1.o, ← HN2.o, List.length_map, List.length_map] at h1
        have hl3 : nv3.length = nv1.length + 1 := by
          have h1 := HBS.o.ln
          rwa [← HN1.o, ← HN3.o, List.length_map, List.length_map] at h1
        have HL2 := hq hl2
        have HL3 := hq hl3
        have k2 : nv2[0].n.kd = 5 := by
          obtain ⟨y, h1, h2⟩ := HCS.o.k0
          rw [← HN2.o] at h1
          have h3 : (nv2.map NV.n)[0]? = some nv2[0].n := by simp [hl2]
          rw [h3] at h1
          rw [← Option.some.inj h1] at h2; exact h2
        have k3 : nv3[0].n.kd = 6 := by
          obtain ⟨y, h1, h2⟩ := HBS.o.k0
          rw [← HN3.o] at h1
          have h3 : (nv3.map NV.n)[0]? = some nv3[0].n := by simp [hl3]
          rw [h3] at h1
          rw [← Option.some.inj h1] at h2; exact h2
        obtain ⟨g2, _, _, rfl, hc2⟩ := node_cells HX26.o.doc (k := 0) (by omega)
        obtain ⟨g3, _, _, rfl, hc3⟩ := node_cells HX3.o.doc (k := 0) (by omega)
        have x2 := (hc2 _ (Below.refl _ _)).1
        have x3 := (hc3 _ (Below.refl _ _)).1
        rw [k2] at x2
        rw [k3] at x3
        simp only [Nat.zero_mul] at x2 x3
        have d1 := HX16.o.box.at_ 1
        have d2 := HX26.o.box.at_ 1
        have d3 := HX3.o.box.at_ 1
        have e1 : ((nv2.length : Int) != (nv1.length : Int) + 1) = false := by rw [bne_eq_false_iff_eq]; omega
        have e2 : ((nv3.length : Int) != (nv2.length : Int)) = false := by rw [bne_eq_false_iff_eq]; omega
        have p2 : (0 : Int) < (nv2.length : Int) := by omega
        have p3 : (0 : Int) < (nv3.length : Int) := by omega
        clear hl2 hl3 k2 k3 hc2 hc3
        go_wp2_with fail
        go_loopg [13] nv1.length (fun g i wr => ∃ k : Nat, k + g ≤ nv1.length ∧ nv1.length ≤ k + g ∧ i = .int .i64 (k : Int) ∧ Hq (Below W7.heap.size W7 wr))
        case atStart => exact ⟨0, by omega, by omega, rfl, hq (Below.refl _ _)⟩
        case round =>
          clear x2 x3 d1 d2 d3 e1 e2 p2 p3
          obtain ⟨k, hk, hk', rfl, hb⟩ := hrel
          have HXA := hq (HX16.o.grow hb.o)
          have HXB := hq (HX26.o.grow hb.o)
          have HXC := hq (HX3.o.grow hb.o)
          have d1 := HXA.o.box.at_ 1
          have d2 := HXB.o.box.at_ 1
          have d3 := HXC.o.box.at_ 1
          by_cases hkl : k < nv1.length
          · obtain ⟨m, hm⟩ : ∃ m, m = k + 1 := ⟨_, rfl⟩
            have hm2 : m < nv2.length := by have := HL2.o; omega
            have hm3 : m < nv3.length := by have := HL3.o; omega
            have hx1 : ns[k]? = some nv1[k].n := by rw [← HN1.o]; simp [hkl]
            obtain ⟨y2, y2a, r2⟩ := HCS.o.at_ k _ hx1
            obtain ⟨y3, y3a, r3⟩ := HBS.o.at_ k _ hx1
            rw [← hm] at y2a y3a
            have y2b : nv2[m].n = y2 := by
              rw [← HN2.o] at y2a
              exact Option.some.inj (((by simp [hm2]) : (nv2.map NV.n)[m]? = some nv2[m].n).symm.trans y2a)
            have y3b : nv3[m].n = y3 := by
              rw [← HN3.o] at y3a
              exact Option.some.inj (((by simp [hm3]) : (nv3.map NV.n)[m]? = some nv3[m].n).symm.trans y3a)
            obtain ⟨g1, ka1, kc1, eo1, hc1⟩ := node_cells HXA.o.doc hkl
            cases eo1
            obtain ⟨g2', ka2, kc2, eo2, hc2⟩ := node_cells HXB.o.doc hm2
            cases eo2
            obtain ⟨g3', ka3, kc3, eo3, hc3⟩ := node_cells HXC.o.doc hm3
            cases eo3
            rw [y2b] at hc2
            rw [y3b] at hc3
            obtain ⟨u0, u1, _, _, _, u5⟩ := hc1 _ (Below.refl _ _)
            obtain ⟨v0, v1, _, _, _, v5⟩ := hc2 _ (Below.refl _ _)
            obtain ⟨t0, t1, _, _, _, t5⟩ := hc3 _ (Below.refl _ _)
            have xb := HTR.o.ok k _ hx1
            have xb1 := xb.ab
            have xb2 := xb.bs
            rw [r2.kd, ] at v0
            rw [r2.kl] at v5
            have e5 : IntKind.i64.wrap ((k : Int) + 1) = (m : Int) := by rw [IntWalk.i64_in _ (by omega)]; omega
            have f1 : ((nv1[k].n.kd : Int) != (nv1[k].n.kd : Int)) = false := bne_self_eq_false _
            have f2 : ((y2.a : Int) != (nv1[k].n.a : Int) + 1) = false := by rw [bne_eq_false_iff_eq, r2.a]; omega
            have f3 : ((y3.a : Int) != (nv1[k].n.a : Int) + 5) = false := by rw [bne_eq_false_iff_eq, r3.a]; omega
            have f4 : ((nv1[k].n.kids.length : Int) != (nv1[k].n.kids.length : Int)) = false := bne_self_eq_false _
            have hkz : (k : Int) < (nv1.length : Int) := by omega
            have hmz2 : (m : Int) < (nv2.length : Int) := by omega
            have hmz3 : (m : Int) < (nv3.length : Int) := by omega
            have ha4 : nv1[k].n.a ≤ 2048 := by omega
            have HM := hq hm
            clear hm xb xb1 xb2 r2 r3 y2b y3b y2a y3a hx1 hc1 hc2 hc3 t0 t5 HXA HXB HXC
            generalize nv1[k].n.kd = q0 at *
            generalize nv1[k].n.a = q1 at *
            generalize nv1[k].n.kids.length = q5 at *
            generalize y2.a = q2 at *
            generalize y3.a = q3 at *
            have HBN := hq (fun n => below_drawnS hb.o n)
            go_wp2_with fail
            refine wp_region_quiet_lit (by kernel_rfl) (by kernel_rfl) ?_
            dsimp only [List.append]
            repeat (go_big_quiet_step (fail))
            refine wpQuiet_nil ?_
            rintro _ ⟨nq, rfl⟩
            go_wp2_with fail
            go_roundg (gk - 1)
            case measure => omega
            case rel => exact ⟨k + 1, by omega, by omega, int_eq (by have := HM.o; omega), hq (HBN.o _)⟩
          · have hkz : ¬ (k : Int) < (nv1.length : Int) := by omega
            have HBE := hq (below_trans HB6.o hb.o)
            go_wp2_with fail
            go_ret
            exact ⟨rfl, HBE.o⟩
      · have HW1 : Hq (∀ WW, Below W.heap.size W WW → Calls Tryd.prog 11 #[.string (⟨#[91]⟩ ++ s ++ ⟨#[93]⟩)] WW fun e W' => e = .returned (.tuple #[.agg #[.string ⟨#[]⟩, .slice none 0 0], .int .i64 (n : Int), .int .i64 5]) ∧ Below WW.heap.size WW W') := hq (fun WW hb => (HP1.o WW hb).mono fun e w h => by unfold JParsePost at h; rw [hpc] at h; exact h)
        have HW2 : Hq (∀ WW, Below W.heap.size W WW → Calls Tryd.prog 11 #[.string (⟨#[123, 34, 97, 34, 58]⟩ ++ s ++ ⟨#[125]⟩)] WW fun e W' => e = .returned (.tuple #[.agg #[.string ⟨#[]⟩, .slice none 0 0], .int .i64 (m : Int), .int .i64 5]) ∧ Below WW.heap.size WW W') := hq (fun WW hb => (HP2.o WW hb).mono fun e w h => by unfold JParsePost at h; rw [hpb] at h; exact h)
        clear HP0 HP1 HP2 hpm HN hpc hpb
        have hnz : (1 : Int) ≤ (n : Int) := by omega
        have hmz : (5 : Int) ≤ (m : Int) := by omega
        go_wp2_with fail
        refine (HPQ.o _ HB1.o).mono ?_
        rintro e W2 ⟨nv, vN, rfl, hd2, _, hb2⟩
        obtain ⟨na, nc, rfl⟩ := row_shape hd2.nd
        have HB2 := hq (below_trans (below_trans HB1.o hb2) (below_alloc W2 (.cells #[.string s, .slice na nv.length nc] 25)))
        clear hd2
        clear hb2
        go_wp2_with fail
        refine (HW1.o _ HB2.o).mono ?_
        rintro e W3 ⟨rfl, hb3⟩
        have HB3 := hq (below_trans (below_trans HB2.o hb3) (below_alloc W3 (.cells #[.string ⟨#[]⟩, .slice none 0 0] 25)))
        clear hb3
        go_wp2_with fail
        refine (HW2.o _ HB3.o).mono ?_
        rintro e W4 ⟨rfl, hb4⟩
        have HB4 := hq (below_trans (below_trans HB3.o hb4) (below_alloc W4 (.cells #[.string ⟨#[]⟩, .slice none 0 0] 25)))
        clear hb4
        go_wp2_with fail
        go_ret
        exact ⟨rfl, HB4.o⟩
end Go.Proofs.YtleabaldjlbnlaaDoor
