/-
  WALK: the small cases of layer 10; spans and lines held beside each other.
-/
import Derived.Test.YtekihjffefokjaaDoorYlL
import Derived.Test.YtekihjffefokjaaDoorYlQ
namespace Go.Proofs.YtekihjffefokjaaDoor
open Go.RowKit

theorem eq_span (a b a' b' : Int) : ∀ W : World, (Op.equalIn 10000 23 (.agg #[.int .i64 a, .int .i64 b]) (.agg #[.int .i64 a', .int .i64 b'])).run Tryd.prog W = .ok ((a == a') && (b == b')) W := by
  intro W
  have h23 := Tryd.underlying23
  have hst2 : Tryd.prog.stoodInHeld 23 = false := by kernel_rfl
  go_simp
  by_cases h1 : a = a' <;> by_cases h2 : b = b' <;> simp [h1, h2]
theorem eq_line (k a b i k0 k1 r0 r1 n0 n1 : Int) : ∀ W : World, (Op.equalIn 10000 26 (.agg #[.int .i64 k, .int .i64 a, .int .i64 b, .int .i64 i, .int .i64 k0, .int .i64 k1, .int .i64 r0, .int .i64 r1, .int .i64 n0, .int .i64 n1]) (.agg #[.int .i64 k, .int .i64 a, .int .i64 b, .int .i64 i, .int .i64 k0, .int .i64 k1, .int .i64 r0, .int .i64 r1, .int .i64 n0, .int .i64 n1])).run Tryd.prog W = .ok true W := by
  intro W
  have h25 := Tryd.underlying26
  have h23 := Tryd.underlying23
  have hst : Tryd.prog.stoodInHeld 26 = false := by kernel_rfl
  have hst2 : Tryd.prog.stoodInHeld 23 = false := by kernel_rfl
  go_simp

theorem yall_any (s : ByteArray) (w : World) (_hs : s.size ≤ maxLen) :
    Calls Tryd.prog 17 #[.string s] w fun e w' => e = .returned (.agg #[.int .i64 0, .int .i64 (s.size : Int)]) ∧ Below w.heap.size w w' := by
  have hb := below_alloc w (.cells #[.int .i64 0, .int .i64 (s.size : Int)] 23)
  go_enter Tryd.func17, Tryd.ntmps17
  go_wp2_with fail
  refine bodyPost_ret (v := .agg #[.int .i64 0, .int .i64 (s.size : Int)]) ?_ rfl ⟨rfl, ?_⟩
  · simp [results, Tryd.results17, go_sem]
  · exact hb

theorem ys1 : lineM ⟨#[32, 32, 97, 58, 32, 98, 32, 35, 32, 99]⟩ 0 10 = (⟨4, 0, 10, 2, 2, 3, 5, 6, 7, 10⟩, 10, 0) := by kernel_rfl
theorem ys2 : lineM ⟨#[45, 32, 39, 120, 32, 35, 32, 121, 39, 32, 35, 32, 122]⟩ 0 13 = (⟨3, 0, 13, 0, 0, 0, 2, 9, 10, 13⟩, 13, 0) := by kernel_rfl
theorem ys3 : lineM ⟨#[97, 58, 98]⟩ 0 3 = (⟨5, 0, 3, 0, 0, 0, 0, 3, 0, 0⟩, 3, 0) := by kernel_rfl
theorem ys4 : sglM ⟨#[39, 105, 116, 39, 39, 115, 39]⟩ 0 = ([105, 116, 39, 115], 7, 0) := by kernel_rfl
theorem ys5 : quotedM ⟨#[105, 116, 39, 115]⟩ = ([39, 105, 116, 39, 39, 115, 39], 0) := by kernel_rfl
theorem line_lit {R : LineR × Int × Int} (a : Array UInt8) (b : Int) (h : lineM ⟨a⟩ 0 b = R) (hs : a.size ≤ 1000) (hb : 0 ≤ b ∧ b ≤ 1000) (w : World) (hT : tabs w) :
    Calls Tryd.prog 15 #[.string ⟨a⟩, .agg #[.int .i64 0, .int .i64 b]] w (LinePost R w) := by
  rw [← h]; exact yline_any ⟨a⟩ 0 b w hT (Nat.le_trans hs (by omega)) (by omega) (by omega)

set_option maxHeartbeats 4000000 in
set_option maxRecDepth 1000000 in
theorem ysmall_any (w : World) (hT : tabs w) (hm : mx w) : Calls Tryd.prog 14 #[] w fun e w' => e = .returned (.bool true) ∧ Below w.heap.size w w' := by
  have HT := hq hT
  have HM := hq hm
  clear hT hm
  go_enter Tryd.func14, Tryd.ntmps14
  go_wp2_with fail
  refine (yall_any _ _ (by decide)).mono ?_
  rintro e w1 ⟨rfl, hb1⟩
  have HT1 := hq (tabs_grow HT.o hb1)
  have HB1 := hq hb1
  clear hb1
  go_wp2_with fail
  refine (line_lit _ _ ys1 (by decide) (by omega) _ HT1.o).mono ?_
  rintro e w2 ⟨rfl, hb2⟩
  have HB2 := hq (below_trans HB1.o hb2)
  have HT2 := hq (tabs_grow HT1.o hb2)
  clear hb2 HB1 HT1
  have X2 := hq (Whole.made w2 26 #[.int .i64 4, .int .i64 0, .int .i64 10, .int .i64 2, .int .i64 2, .int .i64 3, .int .i64 5, .int .i64 6, .int .i64 7, .int .i64 10])
  have HB2b := hq (HB2.o.alloc HB2.o.size (.cells #[.int .i64 4, .int .i64 0, .int .i64 10, .int .i64 2, .int .i64 2, .int .i64 3, .int .i64 5, .int .i64 6, .int .i64 7, .int .i64 10] 26))
  have HT2b := hq (tabs_grow HT.o HB2b.o)
  clear HB2 HT2
  simp only [LineR.val]
  go_wp2_with fail
  generalize w2.alloc (.cells #[.int .i64 4, .int .i64 0, .int .i64 10, .int .i64 2, .int .i64 2, .int .i64 3, .int .i64 5, .int .i64 6, .int .i64 7, .int .i64 10] 26) = v2 at *
  refine (yall_any _ _ (by decide)).mono ?_
  rintro e w3 ⟨rfl, hb3⟩
  have HB3 := hq (below_trans HB2b.o hb3)
  have HT3 := hq (tabs_grow HT2b.o hb3)
  have X2' := hq (X2.o.grow hb3)
  clear hb3 HB2b HT2b X2
  go_wp2_with fail
  refine (line_lit _ _ ys2 (by decide) (by omega) _ HT3.o).mono ?_
  rintro e w4 ⟨rfl, hb4⟩
  have HB4 := hq (below_trans HB3.o hb4)
  have HT4 := hq (tabs_grow HT3.o hb4)
  have X4 := hq (Whole.made w4 26 #[.int .i64 3, .int .i64 0, .int .i64 13, .int .i64 0, .int .i64 0, .int .i64 0, .int .i64 2, .int .i64 9, .int .i64 10, .int .i64 13])
  have HB4b := hq (HB4.o.alloc HB4.o.size (.cells #[.int .i64 3, .int .i64 0, .int .i64 13, .int .i64 0, .int .i64 0, .int .i64 0, .int .i64 2, .int .i64 9, .int .i64 10, .int .i64 13] 26))
  have HT4b := hq (tabs_grow HT.o HB4b.o)
  have X2'' := hq ((X2'.o.grow hb4).alloc (.cells #[.int .i64 3, .int .i64 0, .int .i64 13, .int .i64 0, .int .i64 0, .int .i64 0, .int .i64 2, .int .i64 9, .int .i64 10, .int .i64 13] 26))
  clear hb4 HB3 HT3 X2' HB4 HT4
  simp only [LineR.val]
  go_wp2_with fail
  generalize w4.alloc (.cells #[.int .i64 3, .int .i64 0, .int .i64 13, .int .i64 0, .int .i64 0, .int .i64 0, .int .i64 2, .int .i64 9, .int .i64 10, .int .i64 13] 26) = v4 at *
  refine (yall_any _ _ (by decide)).mono ?_
  rintro e w5 ⟨rfl, hb5⟩
  have HB5 := hq (below_trans HB4b.o hb5)
  have HT5 := hq (tabs_grow HT4b.o hb5)
  have Y2 := hq (X2''.o.grow hb5)
  have Y4 := hq (X4.o.grow hb5)
  clear hb5 HB4b HT4b X2'' X4
  go_wp2_with fail
  refine (line_lit _ _ ys3 (by decide) (by omega) _ HT5.o).mono ?_
  rintro e w6 ⟨rfl, hb6⟩
  have HB6 := hq (below_trans HB5.o hb6)
  have HT6 := hq (tabs_grow HT5.o hb6)
  have X6 := hq (Whole.made w6 26 #[.int .i64 5, .int .i64 0, .int .i64 3, .int .i64 0, .int .i64 0, .int .i64 0, .int .i64 0, .int .i64 3, .int .i64 0, .int .i64 0])
  have HB6b := hq (HB6.o.alloc HB6.o.size (.cells #[.int .i64 5, .int .i64 0, .int .i64 3, .int .i64 0, .int .i64 0, .int .i64 0, .int .i64 0, .int .i64 3, .int .i64 0, .int .i64 0] 26))
  have HT6b := hq (tabs_grow HT.o HB6b.o)
  have Z2 := hq ((Y2.o.grow hb6).alloc (.cells #[.int .i64 5, .int .i64 0, .int .i64 3, .int .i64 0, .int .i64 0, .int .i64 0, .int .i64 0, .int .i64 3, .int .i64 0, .int .i64 0] 26))
  have Z4 := hq ((Y4.o.grow hb6).alloc (.cells #[.int .i64 5, .int .i64 0, .int .i64 3, .int .i64 0, .int .i64 0, .int .i64 0, .int .i64 0, .int .i64 3, .int .i64 0, .int .i64 0] 26))
  clear hb6 HB5 HT5 Y2 Y4 HB6 HT6
  simp only [LineR.val]
  go_wp2_with fail
  generalize w6.alloc (.cells #[.int .i64 5, .int .i64 0, .int .i64 3, .int .i64 0, .int .i64 0, .int .i64 0, .int .i64 0, .int .i64 3, .int .i64 0, .int .i64 0] 26) = v6 at *
  have hsg := single_any ⟨#[39, 105, 116, 39, 39, 115, 39]⟩ 0 v6 HT6b.o (by decide) (by omega)
  rw [ys4] at hsg
  refine hsg.mono ?_
  rintro e w7 ⟨rfl, hb7⟩
  have HB7 := hq (below_trans HB6b.o hb7)
  have HT7 := hq (tabs_grow HT6b.o hb7)
  have V2 := hq (Z2.o.grow hb7)
  have V4 := hq (Z4.o.grow hb7)
  have V6 := hq (X6.o.grow hb7)
  clear hb7 HB6b HT6b Z2 Z4 X6 hsg
  go_wp2_with fail
  have hqd := quoted_any ⟨#[105, 116, 39, 115]⟩ w7 HT7.o (mx_grow HM.o HB7.o) (by decide)
  rw [ys5] at hqd
  refine hqd.mono ?_
  rintro e w8 ⟨rfl, hb8⟩
  have HB8 := hq (below_trans HB7.o hb8)
  have u2 := V2.o.grow hb8
  have u4 := V4.o.grow hb8
  have u6 := V6.o.grow hb8
  have p0 := u2.at_ 0
  have p1 := u2.at_ 1
  have p2 := u2.at_ 2
  have p3 := u2.at_ 3
  have p4 := u2.at_ 4
  have p5 := u2.at_ 5
  have p6 := u2.at_ 6
  have p7 := u2.at_ 7
  have p8 := u2.at_ 8
  have p9 := u2.at_ 9
  have q0 := u4.at_ 0
  have q6 := u4.at_ 6
  have q7 := u4.at_ 7
  have q8 := u4.at_ 8
  have q9 := u4.at_ 9
  have r0 := u6.at_ 0
  have r6 := u6.at_ 6
  have r7 := u6.at_ 7
  have hl2 := u2.lt
  have hl4 := u4.lt
  have hl6 := u6.lt
  clear hb8 HB7 HT7 V2 V4 V6 hqd u2 u4 u6
  have E1 := eq_line 4 0 10 2 2 3 5 6 7 10
  have E2 := eq_span 2 9 2 9
  have E3 := eq_span 10 13 10 13
  have E4 := eq_span 0 3 0 3
  go_wp2_with fail
  go_ret
  exact ⟨rfl, HB8.o.alloc HB8.o.size _⟩
end Go.Proofs.YtekihjffefokjaaDoor
