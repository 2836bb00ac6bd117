/-
  WALK of reading: the small cases of the laws.
-/
import Derived.Test.YtnlkokgekjlmmaaGreatDoorRdi
import Derived.Test.YtnlkokgekjlmmaaGreatDoorVuM
namespace Go.Proofs.YtnlkokgekjlmmaaGreatDoor
open Go.RowKit
abbrev rl1 : ByteArray := ⟨#[32, 91, 49, 46, 48, 44, 32, 34, 92, 117, 48, 48, 54, 49, 34, 93, 32]⟩
abbrev rl2 : ByteArray := ⟨#[123, 34, 97, 34, 58, 91, 49, 44, 50, 93, 125]⟩
abbrev rn1 : List JN := [⟨5, 1, 16, 0, 0, [1, 2], [(2, 5), (6, 15)]⟩, ⟨3, 2, 5, 0, 0, [], []⟩, ⟨4, 7, 15, 0, 0, [], []⟩]
abbrev rn2 : List JN := [⟨6, 0, 11, 0, 0, [1], [(1, 10)]⟩, ⟨5, 5, 10, 1, 4, [2, 3], [(6, 7), (8, 9)]⟩, ⟨3, 6, 7, 0, 0, [], []⟩, ⟨3, 8, 9, 0, 0, [], []⟩]
abbrev rv1 : Vl := .mk 5 [] [] [.mk 3 [49] [] [], .mk 4 [97] [] []]
theorem rjs1 : jparseM rl1 = .inr rn1 := by kernel_rfl
theorem rjs2 : jparseM rl2 = .inr rn2 := by kernel_rfl
theorem rjv1 : Rv rl1 rn1 32 0 rv1 3 := by
 have h1 : Rv rl1 rn1 31 1 (.mk 3 [49] [] []) 1 := by
  have h : Rv rl1 rn1 31 1 (leafV rl1 ⟨3, 2, 5, 0, 0, [], []⟩) 1 := .leaf rfl ⟨by decide, by decide, 9, by kernel_rfl, rfl, by decide⟩ rfl
  rwa [show leafV rl1 ⟨3, 2, 5, 0, 0, [], []⟩ = .mk 3 [49] [] [] by kernel_rfl] at h
 have h2 : Rv rl1 rn1 31 2 (.mk 4 [97] [] []) 1 := by
  have h : Rv rl1 rn1 31 2 (leafV rl1 ⟨4, 7, 15, 0, 0, [], []⟩) 1 := .leaf rfl ⟨by decide, by decide, 8, by kernel_rfl, rfl, by decide⟩ rfl
  rwa [show leafV rl1 ⟨4, 7, 15, 0, 0, [], []⟩ = .mk 4 [97] [] [] by kernel_rfl] at h
 refine .arr (x := ⟨5, 1, 16, 0, 0, [1, 2], [(2, 5), (6, 15)]⟩) (vs := [.mk 3 [49] [] [], .mk 4 [97] [] []]) (cs := [1, 1]) rfl rfl rfl rfl (fun i hi => ?_) (fun i hi => ?_)
 · match i, hi with
   | 0, _ => decide
   | 1, _ => decide
   | (i + 2), hi => exact absurd hi (by show ¬ i + 2 < 2; omega)
 · match i, hi with
   | 0, _ => exact h1
   | 1, _ => exact h2
   | (i + 2), hi => exact absurd hi (by show ¬ i + 2 < 2; omega)
theorem rjv2 : Rv rl2 rn2 32 3 (.mk 3 [50] [] []) 1 := by
 have h : Rv rl2 rn2 32 3 (leafV rl2 ⟨3, 8, 9, 0, 0, [], []⟩) 1 := .leaf rfl ⟨by decide, by decide, 9, by kernel_rfl, rfl, by decide⟩ rfl
 rwa [show leafV rl2 ⟨3, 8, 9, 0, 0, [], []⟩ = .mk 3 [50] [] [] by kernel_rfl] at h
theorem rat2 : atP rl2 rn2 [[97], [49]] = some 3 := by kernel_rfl
theorem rng_small {v : Vl} (h : v.allB (fun x => decide (-1000 ≤ x.k) && decide (x.k ≤ 1000) && decide (x.t.length ≤ 100) && x.ks.all (fun k => decide (k.length ≤ 100))) = true) : v.All Vl.Rng := by
 revert h
 refine Vl.ind (P := fun v => v.allB _ = true → v.All Vl.Rng) (fun k t ks is ih h => ?_) v
 simp only [Vl.allB, Bool.and_eq_true, Vl.allsB_iff, decide_eq_true_eq, List.all_eq_true] at h
 obtain ⟨⟨⟨⟨h1, h2⟩, h3⟩, h4⟩, h5⟩ := h
 exact .mk _ _ _ _ ⟨⟨Int.le_trans (by decide) h1, Int.le_trans h2 (by decide)⟩, Nat.le_trans h3 (by decide), fun k hk => Nat.le_trans (h4 k hk) (by decide)⟩ (fun x hx => ih x hx (h5 x hx))
def IsVR (m : Vl) (a : Value) (V : World) : Prop := ∃ y : Vt, a = y.v ∧ y.Ok V ∧ y.m = m
theorem equalVR_any {m n : Vl} {A B : Value} {V : World} {r : Bool} (hA : IsVR m A V) (hB : IsVR n B V) (hr : r = true ↔ m = n) : Calls Tryz.prog 22 #[A, B] V (BPost r V) := by
 obtain ⟨x, rfl, hx, rfl⟩ := hA
 obtain ⟨y, rfl, hy, rfl⟩ := hB
 refine (equal_any x y V hx hy).mono (fun e W ⟨v, h1, h2, h3⟩ => ⟨?_, h3⟩)
 rw [h1, Bool.eq_iff_iff.2 (h2.trans hr.symm)]
theorem row_is {W : World} {g : Nat} (h : Whole W g 25 #[.int .i64 3, .string (st [49]), .slice none 0 0, .slice none 0 0, .int .i64 4, .string (st [97]), .slice none 0 0, .slice none 0 0]) : IsVR rv1 (.agg #[.int .i64 5, .string ⟨#[]⟩, .slice none 0 0, .slice (some ⟨g, 0, none⟩) 2 2]) W :=
 ⟨.mk 5 [] ⟨none, 0, []⟩ (some ⟨g, 0, none⟩) 2 [leafT 3 [49], leafT 4 [97]], rfl, arr_ok (l := [leafT 3 [49], leafT 4 [97]]) h rfl (by exact (by decide : (2 : Nat) ≤ 1000)) (two_ok (leaf_ok 3 [49] W (by decide) (by show 1 ≤ maxLen; decide)) (leaf_ok 4 [97] W (by decide) (by show 1 ≤ maxLen; decide))), by rw [Vt.m_mk]; simp only [List.map_cons, List.map_nil, leafT_m]⟩
theorem IsVR.growR {m : Vl} {a : Value} {V W : World} (h : IsVR m a V) (hb : Below V.heap.size V W) : IsVR m a W := by
 obtain ⟨y, h1, h2, h3⟩ := h
 exact ⟨y, h1, h2.grow hb, h3⟩
def slB : Value → Nat | .slice (some a) _ _ => a.block | _ => 0
def itB : Value → Nat | .agg #[_, _, _, i] => slB i | _ => 0
def RLK (va : Value) (g9 : Nat) (i : Nat) (v : Value) (_ _ : Nat) (W : World) : Prop := match i with
 | 0 => v = .int .i64 0
 | 3 => v = .int .i64 17
 | 7 => v = va
 | 8 => v = .agg #[.int .i64 3, .string (st [49]), .slice none 0 0, .slice none 0 0]
 | 9 => v = .agg #[.int .i64 4, .string (st [97]), .slice none 0 0, .slice none 0 0]
 | 10 => v = .slice (some ⟨slB v, 0, none⟩) 2 2 ∧ Whole W (slB v) 25 #[.int .i64 3, .string (st [49]), .slice none 0 0, .slice none 0 0, .int .i64 4, .string (st [97]), .slice none 0 0, .slice none 0 0]
 | 11 => v = .agg #[.int .i64 5, .string ⟨#[]⟩, .slice none 0 0, .slice (some ⟨itB v, 0, none⟩) 2 2] ∧ Whole W (itB v) 25 #[.int .i64 3, .string (st [49]), .slice none 0 0, .slice none 0 0, .int .i64 4, .string (st [97]), .slice none 0 0, .slice none 0 0]
 | 15 => v = .int .i64 0
 | 19 => v = .int .i64 3
 | 29 => v = .pointer (some ⟨g9, 1, none⟩)
 | 30 => v = .string (st [50])
 | _ => v = .bool true
theorem one_txtR : textM (ofM 1) = [49] := by kernel_rfl
set_option maxHeartbeats 32000000 in
set_option maxRecDepth 1000000 in
theorem small9_any (w : World) (hE : Env w) : Calls Tryz.prog 29 #[] w (BPost true w) := by
 have HN1 := hq (fun V (hV : Below w.heap.size w V) => (show Calls Tryz.prog 47 #[.int .i64 1] V (LeafPost 3 [49] V) from by have := vNum_any 1 V (hE.grow hV).its (by decide) (by decide); rwa [one_txtR] at this))
 have HRD := hq (fun V (hV : Below w.heap.size w V) => (readRead_any rl1 V (hE.grow hV) (by show (17 : Nat) ≤ maxLen; decide)).mono (fun e W' h => (show ∃ y : Vt, e = .returned (.tuple #[y.v, .int .i64 17, .int .i64 0]) ∧ IsVR rv1 y.v W' ∧ Below V.heap.size V W' from by
  unfold RReadPost at h
  rw [rjs1] at h
  obtain ⟨y, v, h1, h2, h3, h4, h5⟩ := h
  obtain ⟨rfl, _⟩ := h1.one rjv1
  exact ⟨y, h2, ⟨y, rfl, h3.ok (by rw [h4]; exact rng_small (by kernel_rfl)), h4⟩, h5⟩)))
 have HPA := hq (fun V (hV : Below w.heap.size w V) => (jparse_any rl2 V (hE.grow hV).tab (by show (11 : Nat) ≤ maxLen; decide)).mono (fun e W' h => (show ∃ nv gN cN, e = .returned (.tuple #[.agg #[.string rl2, .slice (some ⟨gN, 0, none⟩) nv.length cN], .int .i64 11, .int .i64 0]) ∧ DocR nv gN cN W' ∧ nv.map (·.n) = rn2 ∧ Below V.heap.size V W' from by
  unfold JParsePost at h
  rw [rjs2] at h
  obtain ⟨nv, vN, h1, h2, h3, h4⟩ := h
  obtain ⟨_, g, c, rfl, h5⟩ := doc_r rjs2 h2 h3
  exact ⟨nv, g, c, h1, h5, h3, h4⟩)))
 have HAT := hq (fun (V : World) (hV : Below w.heap.size w V) (nv : List NV) (gN cN g : Nat) (hD : DocR nv gN cN V) (hn : nv.map (·.n) = rn2) (hp : Whole V g 9 #[.string ⟨#[97]⟩, .string ⟨#[49]⟩]) => (readAt_any rl2 nv gN cN V (hE.grow hV) (by show (11 : Nat) ≤ 65536; decide) hD (by have := congrArg List.length hn; rw [List.length_map] at this; rw [this]; decide) (fun i hi => by
  rw [hn]
  obtain ⟨v, c, h, _⟩ := (jparseM_rv rjs2).2 i (by have := congrArg List.length hn; rw [List.length_map] at this; rw [← this]; exact hi)
  exact ⟨v, c, h⟩) ⟨some ⟨g, 0, none⟩, 2, [[97], [49]]⟩ ⟨Nat.le_refl _, by show 2 ≤ maxLen; decide, whole_strs hp rfl⟩ (fun x hx => by
  have : x.length = 1 := by
   rcases List.mem_cons.1 hx with rfl | hx
   · rfl
   · rw [List.mem_singleton.1 hx]; rfl
  rw [this]; decide)).mono (fun e W' h => (show e = .returned (.tuple #[.int .i64 3, .bool true]) ∧ Below V.heap.size V W' from by
   rw [hn, rat2] at h
   exact h)))
 have HND := hq (fun (V : World) (hV : Below w.heap.size w V) (nv : List NV) (gN cN : Nat) (hD : DocR nv gN cN V) (hn : nv.map (·.n) = rn2) => (readNode_any rl2 nv gN cN V (hE.grow hV) (by show (11 : Nat) ≤ 65536; decide) hD (k := 3) (by rw [hn]; exact rjv2) (by have := congrArg List.length hn; rw [List.length_map] at this; rw [this]; decide)).mono (fun e W' h => (show ∃ (k : Int) (ko : Option Addr) (kn kc : Nat) (io : Option Addr) (jn ic : Nat), e = .returned (.tuple #[.agg #[.int .i64 k, .string (st [50]), .slice ko kn kc, .slice io jn ic], .bool true]) ∧ Below V.heap.size V W' from by
  obtain ⟨y, h1, h2, h3, h4⟩ := h
  obtain ⟨yk, yt, ⟨yko, ykc, ykl⟩, yo, yc, yis⟩ := y
  rw [Vt.m_mk] at h3
  injection h3 with h3a h3b _ _
  subst h3b
  rw [Vt.v_mk'] at h1
  exact ⟨_, _, _, _, _, _, _, h1, h4⟩)))
 have HFI : Hq (∀ W', Below w.heap.size w W' → BPost true w (.returned (.bool true)) W') := hq (fun W' h => ⟨rfl, h⟩)
 generalize BPost true w = PP at *
 clear hE
 go_enter Tryz.func29, Tryz.ntmps29
 go_wp2_with fail
 refine (HRD.o w (Below.refl _ _)).mono ?_
 rintro e w1 ⟨y, rfl, hy1, hb1⟩
 obtain ⟨yk, yt, ⟨yko, ykc, ykl⟩, yo, yc, yis⟩ := y
 rw [Vt.v_mk'] at hy1 ⊢
 go_upto_region 2 with fail
 have HM2 := hq (hy1.growR (below_alloc w1 (.cells #[.int .i64 yk, .string (st yt), .slice yko ykl.length ykc, .slice yo yis.length yc] 25)))
 have HB2 := hq (below_trans hb1 (below_alloc w1 (.cells #[.int .i64 yk, .string (st yt), .slice yko ykl.length ykc, .slice yo yis.length yc] 25)))
 have HW2 := hq (Whole.made w1 25 #[.int .i64 yk, .string (st yt), .slice yko ykl.length ykc, .slice yo yis.length yc])
 clear hy1 hb1 HRD
 generalize (w1.alloc (.cells #[.int .i64 yk, .string (st yt), .slice yko ykl.length ykc, .slice yo yis.length yc] 25)) = w2 at *
 generalize w1.heap.size = gl at *
 go_wp2_with fail
 refine (HPA.o w2 HB2.o).mono ?_
 rintro e w3 ⟨nv, gN, cN, rfl, hD3, hn3, hb3⟩
 go_upto_region 3 with fail
 have HN := hq hn3
 have hnl : nv.length ≤ 4096 := hD3.n4
 have hb4 := below_alloc w3 (.cells #[.string rl2, .slice (some ⟨gN, 0, none⟩) nv.length cN] 46)
 have HD4 := hq (hD3.grow hb4)
 have HX4 := hq (Whole.made w3 46 #[.string rl2, .slice (some ⟨gN, 0, none⟩) nv.length cN])
 have HM4 := hq ((HM2.o.growR hb3).growR hb4)
 have HW4 := hq ((HW2.o.grow hb3).grow hb4)
 have HB4 := hq (below_trans (below_trans HB2.o hb3) hb4)
 clear hD3 hn3 hb3 hb4 HM2 HW2 HB2 HPA
 generalize (w3.alloc (.cells #[.string rl2, .slice (some ⟨gN, 0, none⟩) nv.length cN] 46)) = w4 at *
 generalize w3.heap.size = gd at *
 obtain ⟨x0, x1⟩ : w4.cell? ⟨gd, 0, none⟩ = some (.string rl2) ∧ w4.cell? ⟨gd, 1, none⟩ = some (.slice (some ⟨gN, 0, none⟩) nv.length cN) := ⟨HX4.o.at_ 0, HX4.o.at_ 1⟩
 have hb5 := below_alloc w4 (.cells #[.string ⟨#[97]⟩, .string ⟨#[49]⟩] 9)
 have HD5 := hq (HD4.o.grow hb5)
 have HP5 := hq (Whole.made w4 9 #[.string ⟨#[97]⟩, .string ⟨#[49]⟩])
 have HX5 := hq (HX4.o.grow hb5)
 have HM5 := hq (HM4.o.growR hb5)
 have HW5 := hq (HW4.o.grow hb5)
 have HB5 := hq (below_trans HB4.o hb5)
 clear hb5
 go_wp2_with fail
 refine (HAT.o _ HB5.o nv gN cN _ HD5.o HN.o HP5.o).mono ?_
 rintro e w6 ⟨rfl, hb6⟩
 have HD6 := hq (HD5.o.grow hb6)
 have HX6 := hq (HX5.o.grow hb6)
 have HM6 := hq (HM5.o.growR hb6)
 have HW6 := hq (HW5.o.grow hb6)
 have HB6 := hq (below_trans HB5.o hb6)
 clear hb6 HD5 HP5 HX5 HM5 HW5 HB5 HD4 HX4 HM4 HW4 HB4 x0 x1 HAT
 generalize (w4.alloc (.cells #[.string ⟨#[97]⟩, .string ⟨#[49]⟩] 9)) = w5 at *
 obtain ⟨x0, x1⟩ : w6.cell? ⟨gd, 0, none⟩ = some (.string rl2) ∧ w6.cell? ⟨gd, 1, none⟩ = some (.slice (some ⟨gN, 0, none⟩) nv.length cN) := ⟨HX6.o.at_ 0, HX6.o.at_ 1⟩
 go_wp2_with fail
 refine (HND.o w6 HB6.o nv gN cN HD6.o HN.o).mono ?_
 rintro e w7 ⟨zk, zko, zkn, zkc, zo, zn, zc, rfl, hb7⟩
 go_upto_region 5 with fail
 have hb8 := below_alloc w7 (.cells #[.int .i64 zk, .string (st [50]), .slice zko zkn zkc, .slice zo zn zc] 25)
 have HZ8 := hq (Whole.made w7 25 #[.int .i64 zk, .string (st [50]), .slice zko zkn zkc, .slice zo zn zc])
 have HM8 := hq ((HM6.o.growR hb7).growR hb8)
 have HW8 := hq ((HW6.o.grow hb7).grow hb8)
 have HB8 := hq (below_trans (below_trans HB6.o hb7) hb8)
 clear hb7 hb8 HD6 HX6 HM6 HW6 HB6 x0 x1 HND HN
 generalize (w7.alloc (.cells #[.int .i64 zk, .string (st [50]), .slice zko zkn zkc, .slice zo zn zc] 25)) = w8 at *
 generalize w7.heap.size = g9 at *
 have HEQ := hq (fun V (h : Below w8.heap.size w8 V) (g : Nat) (hw : Whole V g 25 #[.int .i64 3, .string (st [49]), .slice none 0 0, .slice none 0 0, .int .i64 4, .string (st [97]), .slice none 0 0, .slice none 0 0]) => equalVR_any (r := true) (HM8.o.growR h) (row_is hw) ⟨fun _ => rfl, fun _ => rfl⟩)
 generalize hva : Value.agg #[.int .i64 yk, .string (st yt), .slice yko ykl.length ykc, .slice yo yis.length yc] = va at *
 refine go_flow (by kernel_rfl) [(0, 32), (1, 33), (2, 34), (3, 35), (4, 36), (5, 37), (6, 38), (7, 39), (8, 40), (9, 41), (10, 42), (11, 43), (12, 44), (13, 45), (14, 46), (15, 47), (16, 48), (17, 49), (18, 50), (19, 51), (20, 52), (21, 53), (22, 54), (23, 55), (24, 56), (25, 57), (26, 58), (27, 59), (28, 60), (29, 61), (30, 62), (31, 63), (32, 64), (33, 0)] [[0], [1, 0], [2, 1, 0], [3, 2, 1, 0], [4, 3, 2, 1, 0], [5, 2, 1, 0, 4, 3], [6, 5, 2, 1, 0, 4, 3], [7, 6, 5, 2, 1, 0, 4, 3], [8, 6, 5, 2, 1, 0, 4, 3], [9, 6, 5, 2, 1, 0, 4, 3], [10, 8, 6, 5, 2, 1, 0, 4, 3, 9], [11, 10, 8, 6, 5, 2, 1, 0, 4, 3, 9], [12, 7, 6, 5, 2, 1, 0, 4, 3, 11, 10, 8, 9], [13, 6, 5, 2, 1, 0, 4, 3, 12, 7, 11, 10, 8, 9], [14, 13, 6, 5, 2, 1, 0, 4, 3, 12, 7, 11, 10, 8, 9], [15, 14, 13, 6, 5, 2, 1, 0, 4, 3, 12, 7, 11, 10, 8, 9], [16, 15, 14, 13, 6, 5, 2, 1, 0, 4, 3, 12, 7, 11, 10, 8, 9], [17, 14, 13, 6, 5, 2, 1, 0, 4, 3, 12, 7, 11, 10, 8, 9, 16, 15], [18, 17, 14, 13, 6, 5, 2, 1, 0, 4, 3, 12, 7, 11, 10, 8, 9, 16, 15], [19, 18, 17, 14, 13, 6, 5, 2, 1, 0, 4, 3, 12, 7, 11, 10, 8, 9, 16, 15], [20, 19, 18, 17, 14, 13, 6, 5, 2, 1, 0, 4, 3, 12, 7, 11, 10, 8, 9, 16, 15], [21, 18, 17, 14, 13, 6, 5, 2, 1, 0, 4, 3, 12, 7, 11, 10, 8, 9, 16, 15, 20, 19], [22, 21, 18, 17, 14, 13, 6, 5, 2, 1, 0, 4, 3, 12, 7, 11, 10, 8, 9, 16, 15, 20, 19], [23, 22, 21, 18, 17, 14, 13, 6, 5, 2, 1, 0, 4, 3, 12, 7, 11, 10, 8, 9, 16, 15, 20, 19], [24, 22, 21, 18, 17, 14, 13, 6, 5, 2, 1, 0, 4, 3, 12, 7, 11, 10, 8, 9, 16, 15, 20, 19, 23], [25, 24, 22, 21, 18, 17, 14, 13, 6, 5, 2, 1, 0, 4, 3, 12, 7, 11, 10, 8, 9, 16, 15, 20, 19, 23], [26, 25, 24, 22, 21, 18, 17, 14, 13, 6, 5, 2, 1, 0, 4, 3, 12, 7, 11, 10, 8, 9, 16, 15, 20, 19, 23], [27, 25, 24, 22, 21, 18, 17, 14, 13, 6, 5, 2, 1, 0, 4, 3, 12, 7, 11, 10, 8, 9, 16, 15, 20, 19, 23, 26], [28, 27, 25, 24, 22, 21, 18, 17, 14, 13, 6, 5, 2, 1, 0, 4, 3, 12, 7, 11, 10, 8, 9, 16, 15, 20, 19, 23, 26], [29, 28, 27, 25, 24, 22, 21, 18, 17, 14, 13, 6, 5, 2, 1, 0, 4, 3, 12, 7, 11, 10, 8, 9, 16, 15, 20, 19, 23, 26], [30, 29, 28, 27, 25, 24, 22, 21, 18, 17, 14, 13, 6, 5, 2, 1, 0, 4, 3, 12, 7, 11, 10, 8, 9, 16, 15, 20, 19, 23, 26], [31, 30, 29, 28, 27, 25, 24, 22, 21, 18, 17, 14, 13, 6, 5, 2, 1, 0, 4, 3, 12, 7, 11, 10, 8, 9, 16, 15, 20, 19, 23, 26], [32, 28, 27, 25, 24, 22, 21, 18, 17, 14, 13, 6, 5, 2, 1, 0, 4, 3, 12, 7, 11, 10, 8, 9, 16, 15, 20, 19, 23, 26, 31, 30, 29], [33, 32, 28, 27, 25, 24, 22, 21, 18, 17, 14, 13, 6, 5, 2, 1, 0, 4, 3, 12, 7, 11, 10, 8, 9, 16, 15, 20, 19, 23, 26, 31, 30, 29]] [] [] (RLK va g9) ?A ?hA (by kernel_rfl) ?hs ?he
 case hA =>
  intro f
  simp only [putS]
  go_simp
  rfl
 case hs =>
  refine Steps.cons rfl ?_ (Steps.cons rfl ?_ (Steps.cons rfl ?_ (Steps.cons rfl ?_ (Steps.cons rfl ?_ (Steps.cons rfl ?_ (Steps.cons rfl ?_ (Steps.cons rfl ?_ (Steps.cons rfl ?_ (Steps.cons rfl ?_ (Steps.cons rfl ?_ (Steps.cons rfl ?_ (Steps.cons rfl ?_ (Steps.cons rfl ?_ (Steps.cons rfl ?_ (Steps.cons rfl ?_ (Steps.cons rfl ?_ (Steps.cons rfl ?_ (Steps.cons rfl ?_ (Steps.cons rfl ?_ (Steps.cons rfl ?_ (Steps.cons rfl ?_ (Steps.cons rfl ?_ (Steps.cons rfl ?_ (Steps.cons rfl ?_ (Steps.cons rfl ?_ (Steps.cons rfl ?_ (Steps.cons rfl ?_ (Steps.cons rfl ?_ (Steps.cons rfl ?_ (Steps.cons rfl ?_ (Steps.cons rfl ?_ (Steps.cons rfl ?_ (Steps.cons rfl ?_ Steps.nil)))))))))))))))))))))))))))))))))
  · intro f lo hi W2 hb hd K hK
    rw [if_pos (by rfl)]
    go_simp
    exact hK _ _ (Below.refl _ _) (fun V _ _ _ _ => rfl)
  · intro f lo hi W2 hb hd K hK
    have e0 : f 0 = _ := (hd 0 (by decide) (by decide))
    clear hd
    try dsimp only at hK
    generalize f 0 = x0 at e0 hK ⊢
    subst e0
    rw [if_pos (by rfl)]
    go_simp
    exact hK _ _ (Below.refl _ _) (fun V _ _ _ _ => rfl)
  · intro f lo hi W2 hb hd K hK
    have e1 : f 1 = _ := (hd 1 (by decide) (by decide))
    clear hd
    try dsimp only at hK
    generalize f 1 = x1 at e1 hK ⊢
    subst e1
    rw [if_pos (by rfl)]
    go_simp
    exact hK _ _ (Below.refl _ _) (fun V _ _ _ _ => rfl)
  · intro f lo hi W2 hb hd K hK
    have e2 : f 2 = _ := (hd 2 (by decide) (by decide))
    clear hd
    try dsimp only at hK
    generalize f 2 = x2 at e2 hK ⊢
    subst e2
    rw [if_pos (by rfl)]
    go_simp
    exact hK _ _ (Below.refl _ _) (fun V _ _ _ _ => rfl)
  · intro f lo hi W2 hb hd K hK
    have e3 : f 3 = _ := (hd 3 (by decide) (by decide))
    have e2 : f 2 = _ := (hd 2 (by decide) (by decide))
    clear hd
    try dsimp only at hK
    generalize f 3 = x3 at e3 hK ⊢
    generalize f 2 = x2 at e2 hK ⊢
    subst e3
    subst e2
    rw [if_pos (by rfl)]
    go_simp
    exact hK _ _ (Below.refl _ _) (fun V _ _ _ _ => rfl)
  · intro f lo hi W2 hb hd K hK
    have e2 : f 2 = _ := (hd 2 (by decide) (by decide))
    have e4 : f 4 = _ := (hd 4 (by decide) (by decide))
    clear hd
    try dsimp only at hK
    generalize f 2 = x2 at e2 hK ⊢
    generalize f 4 = x4 at e4 hK ⊢
    subst e2
    subst e4
    rw [if_pos (by rfl)]
    go_simp
    exact hK _ _ (Below.refl _ _) (fun V _ _ _ _ => rfl)
  · intro f lo hi W2 hb hd K hK
    have e5 : f 5 = _ := (hd 5 (by decide) (by decide))
    clear hd
    try dsimp only at hK
    generalize f 5 = x5 at e5 hK ⊢
    subst e5
    rw [if_pos (by rfl)]
    go_simp
    exact hK _ _ (Below.refl _ _) (fun V _ _ _ _ => rfl)
  · intro f lo hi W2 hb hd K hK
    have e6 : f 6 = _ := (hd 6 (by decide) (by decide))
    clear hd
    try dsimp only at hK
    generalize f 6 = x6 at e6 hK ⊢
    subst e6
    rw [if_pos (by rfl)]
    obtain ⟨y0, y1, y2, y3⟩ := four_cells (HW8.o.grow hb)
    rw [← hva]
    go_simp
    exact hK _ _ (Below.refl _ _) (fun V _ _ _ _ => rfl)
  · intro f lo hi W2 hb hd K hK
    have e6 : f 6 = _ := (hd 6 (by decide) (by decide))
    clear hd
    try dsimp only at hK
    generalize f 6 = x6 at e6 hK ⊢
    subst e6
    rw [if_pos (by rfl)]
    go_simp
    refine (HN1.o W2 (below_trans HB8.o hb)).mono ?_
    rintro e w2 ⟨rfl, hb2⟩
    exact hK _ _ hb2 (fun V _ _ _ _ => rfl)
  · intro f lo hi W2 hb hd K hK
    have e6 : f 6 = _ := (hd 6 (by decide) (by decide))
    clear hd
    try dsimp only at hK
    generalize f 6 = x6 at e6 hK ⊢
    subst e6
    rw [if_pos (by rfl)]
    go_simp
    refine (vOf_any [97] W2).mono ?_
    rintro e w2 ⟨rfl, hb2⟩
    exact hK _ _ hb2 (fun V _ _ _ _ => rfl)
  · intro f lo hi W2 hb hd K hK
    have e6 : f 6 = _ := hd 6 (by decide) (by decide)
    have e8 : f 8 = _ := hd 8 (by decide) (by decide)
    have e9 : f 9 = _ := hd 9 (by decide) (by decide)
    clear hd
    try dsimp only at hK
    generalize f 6 = x6 at e6 hK ⊢
    generalize f 8 = x8 at e8 hK ⊢
    generalize f 9 = x9 at e9 hK ⊢
    subst e6
    subst e8
    subst e9
    rw [if_pos (by rfl)]
    go_simp
    exact hK (.slice (some ⟨W2.heap.size, 0, none⟩) 2 2) _ (below_alloc _ _) (fun V _ _ h _ => ⟨rfl, whole_newF h⟩)
  · intro f lo hi W2 hb hd K hK
    have e6 : f 6 = _ := hd 6 (by decide) (by decide)
    have e10 := (hd 10 (by decide) (by decide)).1
    have HF : Hq (∀ V, (∀ j ∈ [11, 10, 8, 6, 5, 2, 1, 0, 4, 3, 9], j ≠ 11 → RLK va g9 j (f j) (lo j) (hi j) V) → Whole V (slB (f 10)) 25 #[.int .i64 3, .string (st [49]), .slice none 0 0, .slice none 0 0, .int .i64 4, .string (st [97]), .slice none 0 0, .slice none 0 0]) := hq (fun V h => (h 10 (by decide) (by decide)).2)
    clear hd
    try dsimp only at hK
    generalize slB (f 10) = g at *
    generalize f 6 = x6 at e6 hK ⊢
    generalize f 10 = x10 at e10 hK ⊢
    subst e6
    subst e10
    rw [if_pos (by rfl)]
    go_simp
    refine (vRow_any _ _ _ _).mono ?_
    rintro e w2 ⟨rfl, hb2⟩
    exact hK _ _ hb2 (fun V _ _ h h2 => ⟨rfl, HF.o V h2⟩)
  · intro f lo hi W2 hb hd K hK
    have e6 : f 6 = _ := hd 6 (by decide) (by decide)
    have e7 : f 7 = _ := hd 7 (by decide) (by decide)
    obtain ⟨e11, hw11⟩ := hd 11 (by decide) (by decide)
    clear hd
    try dsimp only at hK
    generalize itB (f 11) = g at *
    generalize f 6 = x6 at e6 hK ⊢
    generalize f 7 = x7 at e7 hK ⊢
    generalize f 11 = x11 at e11 hK ⊢
    subst e6
    subst e7
    subst e11
    rw [if_pos (by rfl)]
    go_simp
    refine (HEQ.o W2 hb g hw11).mono ?_
    rintro e w2 ⟨rfl, hb2⟩
    exact hK _ _ hb2 (fun V _ _ _ _ => rfl)
  · intro f lo hi W2 hb hd K hK
    have e6 : f 6 = _ := (hd 6 (by decide) (by decide))
    have e12 : f 12 = _ := (hd 12 (by decide) (by decide))
    clear hd
    try dsimp only at hK
    generalize f 6 = x6 at e6 hK ⊢
    generalize f 12 = x12 at e12 hK ⊢
    subst e6
    subst e12
    rw [if_pos (by rfl)]
    go_simp
    exact hK _ _ (Below.refl _ _) (fun V _ _ _ _ => rfl)
  · intro f lo hi W2 hb hd K hK
    have e13 : f 13 = _ := (hd 13 (by decide) (by decide))
    clear hd
    try dsimp only at hK
    generalize f 13 = x13 at e13 hK ⊢
    subst e13
    rw [if_pos (by rfl)]
    go_simp
    exact hK _ _ (Below.refl _ _) (fun V _ _ _ _ => rfl)
  · intro f lo hi W2 hb hd K hK
    have e14 : f 14 = _ := (hd 14 (by decide) (by decide))
    clear hd
    try dsimp only at hK
    generalize f 14 = x14 at e14 hK ⊢
    subst e14
    rw [if_pos (by rfl)]
    go_simp
    exact hK _ _ (Below.refl _ _) (fun V _ _ _ _ => rfl)
  · intro f lo hi W2 hb hd K hK
    have e15 : f 15 = _ := (hd 15 (by decide) (by decide))
    have e14 : f 14 = _ := (hd 14 (by decide) (by decide))
    clear hd
    try dsimp only at hK
    generalize f 15 = x15 at e15 hK ⊢
    generalize f 14 = x14 at e14 hK ⊢
    subst e15
    subst e14
    rw [if_pos (by rfl)]
    go_simp
    exact hK _ _ (Below.refl _ _) (fun V _ _ _ _ => rfl)
  · intro f lo hi W2 hb hd K hK
    have e14 : f 14 = _ := (hd 14 (by decide) (by decide))
    have e16 : f 16 = _ := (hd 16 (by decide) (by decide))
    clear hd
    try dsimp only at hK
    generalize f 14 = x14 at e14 hK ⊢
    generalize f 16 = x16 at e16 hK ⊢
    subst e14
    subst e16
    rw [if_pos (by rfl)]
    go_simp
    exact hK _ _ (Below.refl _ _) (fun V _ _ _ _ => rfl)
  · intro f lo hi W2 hb hd K hK
    have e17 : f 17 = _ := (hd 17 (by decide) (by decide))
    clear hd
    try dsimp only at hK
    generalize f 17 = x17 at e17 hK ⊢
    subst e17
    rw [if_pos (by rfl)]
    go_simp
    exact hK _ _ (Below.refl _ _) (fun V _ _ _ _ => rfl)
  · intro f lo hi W2 hb hd K hK
    have e18 : f 18 = _ := (hd 18 (by decide) (by decide))
    clear hd
    try dsimp only at hK
    generalize f 18 = x18 at e18 hK ⊢
    subst e18
    rw [if_pos (by rfl)]
    go_simp
    exact hK _ _ (Below.refl _ _) (fun V _ _ _ _ => rfl)
  · intro f lo hi W2 hb hd K hK
    have e19 : f 19 = _ := (hd 19 (by decide) (by decide))
    have e18 : f 18 = _ := (hd 18 (by decide) (by decide))
    clear hd
    try dsimp only at hK
    generalize f 19 = x19 at e19 hK ⊢
    generalize f 18 = x18 at e18 hK ⊢
    subst e19
    subst e18
    rw [if_pos (by rfl)]
    go_simp
    exact hK _ _ (Below.refl _ _) (fun V _ _ _ _ => rfl)
  · intro f lo hi W2 hb hd K hK
    have e18 : f 18 = _ := (hd 18 (by decide) (by decide))
    have e20 : f 20 = _ := (hd 20 (by decide) (by decide))
    clear hd
    try dsimp only at hK
    generalize f 18 = x18 at e18 hK ⊢
    generalize f 20 = x20 at e20 hK ⊢
    subst e18
    subst e20
    rw [if_pos (by rfl)]
    go_simp
    exact hK _ _ (Below.refl _ _) (fun V _ _ _ _ => rfl)
  · intro f lo hi W2 hb hd K hK
    have e21 : f 21 = _ := (hd 21 (by decide) (by decide))
    clear hd
    try dsimp only at hK
    generalize f 21 = x21 at e21 hK ⊢
    subst e21
    rw [if_pos (by rfl)]
    go_simp
    exact hK _ _ (Below.refl _ _) (fun V _ _ _ _ => rfl)
  · intro f lo hi W2 hb hd K hK
    have e22 : f 22 = _ := (hd 22 (by decide) (by decide))
    clear hd
    try dsimp only at hK
    generalize f 22 = x22 at e22 hK ⊢
    subst e22
    rw [if_pos (by rfl)]
    go_simp
    exact hK _ _ (Below.refl _ _) (fun V _ _ _ _ => rfl)
  · intro f lo hi W2 hb hd K hK
    have e22 : f 22 = _ := (hd 22 (by decide) (by decide))
    have e23 : f 23 = _ := (hd 23 (by decide) (by decide))
    clear hd
    try dsimp only at hK
    generalize f 22 = x22 at e22 hK ⊢
    generalize f 23 = x23 at e23 hK ⊢
    subst e22
    subst e23
    rw [if_pos (by rfl)]
    go_simp
    exact hK _ _ (Below.refl _ _) (fun V _ _ _ _ => rfl)
  · intro f lo hi W2 hb hd K hK
    have e24 : f 24 = _ := (hd 24 (by decide) (by decide))
    clear hd
    try dsimp only at hK
    generalize f 24 = x24 at e24 hK ⊢
    subst e24
    rw [if_pos (by rfl)]
    go_simp
    exact hK _ _ (Below.refl _ _) (fun V _ _ _ _ => rfl)
  · intro f lo hi W2 hb hd K hK
    have e25 : f 25 = _ := (hd 25 (by decide) (by decide))
    clear hd
    try dsimp only at hK
    generalize f 25 = x25 at e25 hK ⊢
    subst e25
    rw [if_pos (by rfl)]
    go_simp
    exact hK _ _ (Below.refl _ _) (fun V _ _ _ _ => rfl)
  · intro f lo hi W2 hb hd K hK
    have e25 : f 25 = _ := (hd 25 (by decide) (by decide))
    have e26 : f 26 = _ := (hd 26 (by decide) (by decide))
    clear hd
    try dsimp only at hK
    generalize f 25 = x25 at e25 hK ⊢
    generalize f 26 = x26 at e26 hK ⊢
    subst e25
    subst e26
    rw [if_pos (by rfl)]
    go_simp
    exact hK _ _ (Below.refl _ _) (fun V _ _ _ _ => rfl)
  · intro f lo hi W2 hb hd K hK
    have e27 : f 27 = _ := (hd 27 (by decide) (by decide))
    clear hd
    try dsimp only at hK
    generalize f 27 = x27 at e27 hK ⊢
    subst e27
    rw [if_pos (by rfl)]
    go_simp
    exact hK _ _ (Below.refl _ _) (fun V _ _ _ _ => rfl)
  · intro f lo hi W2 hb hd K hK
    have e28 : f 28 = _ := (hd 28 (by decide) (by decide))
    clear hd
    try dsimp only at hK
    generalize f 28 = x28 at e28 hK ⊢
    subst e28
    rw [if_pos (by rfl)]
    go_simp
    exact hK _ _ (Below.refl _ _) (fun V _ _ _ _ => rfl)
  · intro f lo hi W2 hb hd K hK
    have e29 : f 29 = _ := (hd 29 (by decide) (by decide))
    have e28 : f 28 = _ := (hd 28 (by decide) (by decide))
    clear hd
    try dsimp only at hK
    generalize f 29 = x29 at e29 hK ⊢
    generalize f 28 = x28 at e28 hK ⊢
    subst e29
    subst e28
    rw [if_pos (by rfl)]
    obtain ⟨z0, z1, z2, z3⟩ := four_cells (HZ8.o.grow hb)
    go_simp
    exact hK _ _ (Below.refl _ _) (fun V _ _ _ _ => rfl)
  · intro f lo hi W2 hb hd K hK
    have e30 : f 30 = _ := (hd 30 (by decide) (by decide))
    have e28 : f 28 = _ := (hd 28 (by decide) (by decide))
    clear hd
    try dsimp only at hK
    generalize f 30 = x30 at e30 hK ⊢
    generalize f 28 = x28 at e28 hK ⊢
    subst e30
    subst e28
    rw [if_pos (by rfl)]
    go_simp
    exact hK _ _ (Below.refl _ _) (fun V _ _ _ _ => rfl)
  · intro f lo hi W2 hb hd K hK
    have e28 : f 28 = _ := (hd 28 (by decide) (by decide))
    have e31 : f 31 = _ := (hd 31 (by decide) (by decide))
    clear hd
    try dsimp only at hK
    generalize f 28 = x28 at e28 hK ⊢
    generalize f 31 = x31 at e31 hK ⊢
    subst e28
    subst e31
    rw [if_pos (by rfl)]
    go_simp
    exact hK _ _ (Below.refl _ _) (fun V _ _ _ _ => rfl)
  · intro f lo hi W2 hb hd K hK
    have e32 : f 32 = _ := (hd 32 (by decide) (by decide))
    clear hd
    try dsimp only at hK
    generalize f 32 = x32 at e32 hK ⊢
    subst e32
    rw [if_pos (by rfl)]
    go_simp
    exact hK _ _ (Below.refl _ _) (fun V _ _ _ _ => rfl)
 case he =>
  intro f lo hi W2 hb hR hbx hk
  have e33 : f 33 = _ := hR 33 (by decide)
  have HV := hq (HFI.o W2 (below_trans HB8.o hb))
  clear hR hbx hk
  generalize f 33 = x33 at *
  subst e33
  refine wpOps_done ?_
  clear HFI
  go_wp2_with fail
  first | exact HV.o | (go_ret; exact HV.o)
end Go.Proofs.YtnlkokgekjlmmaaGreatDoor
