/-
  THE WALK OF THE LAW YlineLines.
-/
import Derived.Test.YtekihjffefokjaaDoorYlRX
import Derived.Test.YtekihjffefokjaaDoorYlSm
namespace Go.Proofs.YtekihjffefokjaaDoor
open Go.RowKit

theorem line_all (s : ByteArray) (hs : s.size ≤ 1099511627776) : ∀ (W : World), tabs W → Calls Tryd.prog 15 #[.string s, .agg #[.int .i64 0, .int .i64 (s.size : Int)]] W (LinePost (lineM s 0 (s.size : Int)) W) :=
  fun W hW => yline_any s 0 (s.size : Int) W hW hs (by omega) (by omega)
theorem rline_all (s : ByteArray) (hs : s.size ≤ 1099511627776) : ∀ (W : World), Calls Tryd.prog 16 #[.string s, .agg #[.int .i64 0, .int .i64 (s.size : Int)]] W (LinePost (lineM s 0 (s.size : Int)) W) :=
  fun W => rline_any s 0 (s.size : Int) W hs

set_option maxHeartbeats 4000000 in
set_option maxRecDepth 1000000 in
theorem llines_any (s : ByteArray) (p q : Int) (w : World) (hT : tabs w) (hm : mx w) (hs : s.size ≤ maxLen) (hp : -9223372036854775808 ≤ p ∧ p ≤ 9223372036854775807) (hq' : -9223372036854775808 ≤ q ∧ q ≤ 9223372036854775807) :
    Calls Tryd.prog 3 #[.string s, .agg #[.int .i64 p, .int .i64 q]] w fun e w' => e = .returned (.bool true) ∧ Below w.heap.size w w' := by
  have hs0 := hs
  unfold maxLen at hs
  have hBA := below_alloc w (.cells #[.int .i64 p, .int .i64 q] 23)
  have HX := hq (Whole.made w 23 #[.int .i64 p, .int .i64 q])
  have HSM := hq (ysmall_any _ (tabs_grow hT hBA) (mx_grow hm hBA))
  have HBA := hq hBA
  have HT := hq hT
  have HM := hq hm
  clear hT hm hBA
  by_cases hbig : 2048 < s.size
  · have b1 : (2048 : Int) < (s.size : Int) := by omega
    clear hbig HX
    go_enter Tryd.func3, Tryd.ntmps3
    go_wp2_with fail
    refine HSM.o.mono ?_
    rintro e w1 ⟨rfl, hb1⟩
    clear HSM
    go_wp2_with fail
    go_ret
    exact ⟨rfl, below_trans HBA.o hb1⟩
  · have b1 : ¬ (2048 : Int) < (s.size : Int) := by omega
    have HP := hq (fun W (hW : tabs W) => yline_any s p q W hW (by omega) hp hq')
    have HR := hq (fun W => rline_any s p q W (by omega))
    have HPA := hq (line_all s (by omega))
    have HRA := hq (rline_all s (by omega))
    have HAL := hq (fun W => yall_any s W hs0)
    clear hbig hp hq'
    generalize lineM s p q = X at *
    generalize lineM s 0 (s.size : Int) = Y at *
    obtain ⟨⟨k, a, b, i, k0, k1, r0, r1, n0, n1⟩, xe, xr⟩ := X
    obtain ⟨⟨k', a', b', i', k0', k1', r0', r1', n0', n1'⟩, ye, yr⟩ := Y
    have e1 : (xe == xe) = true := beq_self_eq_true _
    have e2 : (xr == xr) = true := beq_self_eq_true _
    have e3 : (ye == ye) = true := beq_self_eq_true _
    have e4 : (yr == yr) = true := beq_self_eq_true _
    have E1 := eq_line k a b i k0 k1 r0 r1 n0 n1
    have E2 := eq_line k' a' b' i' k0' k1' r0' r1' n0' n1'
    go_enter Tryd.func3, Tryd.ntmps3
    go_wp2_with fail
    refine HSM.o.mono ?_
    rintro e w1 ⟨rfl, hb1⟩
    have HB1 := hq (below_trans HBA.o hb1)
    have HXa := HX.o.grow hb1
    have c0 := HXa.at_ 0
    have c1 := HXa.at_ 1
    clear hb1 HSM HX HBA
    go_wp2_with fail
    -- BOXES
    have XS := hq HXa
    clear HXa
    refine (HP.o _ (tabs_grow HT.o HB1.o)).mono ?_
    rintro e w2 ⟨rfl, hb2⟩
    have HB2 := hq (below_trans HB1.o hb2)
    have HB2b := hq (HB2.o.alloc HB2.o.size (.cells #[.int .i64 k, .int .i64 a, .int .i64 b, .int .i64 i, .int .i64 k0, .int .i64 k1, .int .i64 r0, .int .i64 r1, .int .i64 n0, .int .i64 n1] 26))
    have XSn := hq ((XS.o.grow hb2).alloc (.cells #[.int .i64 k, .int .i64 a, .int .i64 b, .int .i64 i, .int .i64 k0, .int .i64 k1, .int .i64 r0, .int .i64 r1, .int .i64 n0, .int .i64 n1] 26))
    clear XS
    have XS := XSn
    clear XSn
    have X0 := hq (Whole.made w2 26 #[.int .i64 k, .int .i64 a, .int .i64 b, .int .i64 i, .int .i64 k0, .int .i64 k1, .int .i64 r0, .int .i64 r1, .int .i64 n0, .int .i64 n1])
    clear hb2 HB1 HB2
    have c0 := XS.o.at_ 0
    have c1 := XS.o.at_ 1
    simp only [LineR.val]
    go_wp2_with fail
    generalize w2.alloc (.cells #[.int .i64 k, .int .i64 a, .int .i64 b, .int .i64 i, .int .i64 k0, .int .i64 k1, .int .i64 r0, .int .i64 r1, .int .i64 n0, .int .i64 n1] 26) = v2 at *
    refine (HR.o _).mono ?_
    rintro e w3 ⟨rfl, hb3⟩
    have HB3 := hq (below_trans HB2b.o hb3)
    have HB3b := hq (HB3.o.alloc HB3.o.size (.cells #[.int .i64 k, .int .i64 a, .int .i64 b, .int .i64 i, .int .i64 k0, .int .i64 k1, .int .i64 r0, .int .i64 r1, .int .i64 n0, .int .i64 n1] 26))
    have XSn := hq ((XS.o.grow hb3).alloc (.cells #[.int .i64 k, .int .i64 a, .int .i64 b, .int .i64 i, .int .i64 k0, .int .i64 k1, .int .i64 r0, .int .i64 r1, .int .i64 n0, .int .i64 n1] 26))
    have X0n := hq ((X0.o.grow hb3).alloc (.cells #[.int .i64 k, .int .i64 a, .int .i64 b, .int .i64 i, .int .i64 k0, .int .i64 k1, .int .i64 r0, .int .i64 r1, .int .i64 n0, .int .i64 n1] 26))
    clear XS X0
    have XS := XSn
    clear XSn
    have X0 := X0n
    clear X0n
    have X1 := hq (Whole.made w3 26 #[.int .i64 k, .int .i64 a, .int .i64 b, .int .i64 i, .int .i64 k0, .int .i64 k1, .int .i64 r0, .int .i64 r1, .int .i64 n0, .int .i64 n1])
    clear hb3 HB2b HB3
    clear c0 c1
    simp only [LineR.val]
    go_wp2_with fail
    generalize w3.alloc (.cells #[.int .i64 k, .int .i64 a, .int .i64 b, .int .i64 i, .int .i64 k0, .int .i64 k1, .int .i64 r0, .int .i64 r1, .int .i64 n0, .int .i64 n1] 26) = v3 at *
    refine (HAL.o _).mono ?_
    rintro e w4 ⟨rfl, hb4⟩
    have HB4 := hq (below_trans HB3b.o hb4)
    have XSn := hq (XS.o.grow hb4)
    have X0n := hq (X0.o.grow hb4)
    have X1n := hq (X1.o.grow hb4)
    clear XS X0 X1
    have XS := XSn
    clear XSn
    have X0 := X0n
    clear X0n
    have X1 := X1n
    clear X1n
    clear hb4 HB3b
    go_wp2_with fail
    refine (HPA.o _ (tabs_grow HT.o HB4.o)).mono ?_
    rintro e w5 ⟨rfl, hb5⟩
    have HB5 := hq (below_trans HB4.o hb5)
    have HB5b := hq (HB5.o.alloc HB5.o.size (.cells #[.int .i64 k', .int .i64 a', .int .i64 b', .int .i64 i', .int .i64 k0', .int .i64 k1', .int .i64 r0', .int .i64 r1', .int .i64 n0', .int .i64 n1'] 26))
    have XSn := hq ((XS.o.grow hb5).alloc (.cells #[.int .i64 k', .int .i64 a', .int .i64 b', .int .i64 i', .int .i64 k0', .int .i64 k1', .int .i64 r0', .int .i64 r1', .int .i64 n0', .int .i64 n1'] 26))
    have X0n := hq ((X0.o.grow hb5).alloc (.cells #[.int .i64 k', .int .i64 a', .int .i64 b', .int .i64 i', .int .i64 k0', .int .i64 k1', .int .i64 r0', .int .i64 r1', .int .i64 n0', .int .i64 n1'] 26))
    have X1n := hq ((X1.o.grow hb5).alloc (.cells #[.int .i64 k', .int .i64 a', .int .i64 b', .int .i64 i', .int .i64 k0', .int .i64 k1', .int .i64 r0', .int .i64 r1', .int .i64 n0', .int .i64 n1'] 26))
    clear XS X0 X1
    have XS := XSn
    clear XSn
    have X0 := X0n
    clear X0n
    have X1 := X1n
    clear X1n
    have X2 := hq (Whole.made w5 26 #[.int .i64 k', .int .i64 a', .int .i64 b', .int .i64 i', .int .i64 k0', .int .i64 k1', .int .i64 r0', .int .i64 r1', .int .i64 n0', .int .i64 n1'])
    clear hb5 HB4 HB5
    simp only [LineR.val]
    go_wp2_with fail
    generalize w5.alloc (.cells #[.int .i64 k', .int .i64 a', .int .i64 b', .int .i64 i', .int .i64 k0', .int .i64 k1', .int .i64 r0', .int .i64 r1', .int .i64 n0', .int .i64 n1'] 26) = v5 at *
    refine (HAL.o _).mono ?_
    rintro e w6 ⟨rfl, hb6⟩
    have HB6 := hq (below_trans HB5b.o hb6)
    have XSn := hq (XS.o.grow hb6)
    have X0n := hq (X0.o.grow hb6)
    have X1n := hq (X1.o.grow hb6)
    have X2n := hq (X2.o.grow hb6)
    clear XS X0 X1 X2
    have XS := XSn
    clear XSn
    have X0 := X0n
    clear X0n
    have X1 := X1n
    clear X1n
    have X2 := X2n
    clear X2n
    clear hb6 HB5b
    go_wp2_with fail
    refine (HRA.o _).mono ?_
    rintro e w7 ⟨rfl, hb7⟩
    have HB7 := hq (below_trans HB6.o hb7)
    have HB7b := hq (HB7.o.alloc HB7.o.size (.cells #[.int .i64 k', .int .i64 a', .int .i64 b', .int .i64 i', .int .i64 k0', .int .i64 k1', .int .i64 r0', .int .i64 r1', .int .i64 n0', .int .i64 n1'] 26))
    have XSn := hq ((XS.o.grow hb7).alloc (.cells #[.int .i64 k', .int .i64 a', .int .i64 b', .int .i64 i', .int .i64 k0', .int .i64 k1', .int .i64 r0', .int .i64 r1', .int .i64 n0', .int .i64 n1'] 26))
    have X0n := hq ((X0.o.grow hb7).alloc (.cells #[.int .i64 k', .int .i64 a', .int .i64 b', .int .i64 i', .int .i64 k0', .int .i64 k1', .int .i64 r0', .int .i64 r1', .int .i64 n0', .int .i64 n1'] 26))
    have X1n := hq ((X1.o.grow hb7).alloc (.cells #[.int .i64 k', .int .i64 a', .int .i64 b', .int .i64 i', .int .i64 k0', .int .i64 k1', .int .i64 r0', .int .i64 r1', .int .i64 n0', .int .i64 n1'] 26))
    have X2n := hq ((X2.o.grow hb7).alloc (.cells #[.int .i64 k', .int .i64 a', .int .i64 b', .int .i64 i', .int .i64 k0', .int .i64 k1', .int .i64 r0', .int .i64 r1', .int .i64 n0', .int .i64 n1'] 26))
    clear XS X0 X1 X2
    have XS := XSn
    clear XSn
    have X0 := X0n
    clear X0n
    have X1 := X1n
    clear X1n
    have X2 := X2n
    clear X2n
    have X3 := hq (Whole.made w7 26 #[.int .i64 k', .int .i64 a', .int .i64 b', .int .i64 i', .int .i64 k0', .int .i64 k1', .int .i64 r0', .int .i64 r1', .int .i64 n0', .int .i64 n1'])
    clear hb7 HB6 HB7
    have p00 := X0.o.at_ 0
    have p01 := X0.o.at_ 1
    have p02 := X0.o.at_ 2
    have p03 := X0.o.at_ 3
    have p04 := X0.o.at_ 4
    have p05 := X0.o.at_ 5
    have p06 := X0.o.at_ 6
    have p07 := X0.o.at_ 7
    have p08 := X0.o.at_ 8
    have p09 := X0.o.at_ 9
    have p10 := X1.o.at_ 0
    have p11 := X1.o.at_ 1
    have p12 := X1.o.at_ 2
    have p13 := X1.o.at_ 3
    have p14 := X1.o.at_ 4
    have p15 := X1.o.at_ 5
    have p16 := X1.o.at_ 6
    have p17 := X1.o.at_ 7
    have p18 := X1.o.at_ 8
    have p19 := X1.o.at_ 9
    have p20 := X2.o.at_ 0
    have p21 := X2.o.at_ 1
    have p22 := X2.o.at_ 2
    have p23 := X2.o.at_ 3
    have p24 := X2.o.at_ 4
    have p25 := X2.o.at_ 5
    have p26 := X2.o.at_ 6
    have p27 := X2.o.at_ 7
    have p28 := X2.o.at_ 8
    have p29 := X2.o.at_ 9
    have p30 := X3.o.at_ 0
    have p31 := X3.o.at_ 1
    have p32 := X3.o.at_ 2
    have p33 := X3.o.at_ 3
    have p34 := X3.o.at_ 4
    have p35 := X3.o.at_ 5
    have p36 := X3.o.at_ 6
    have p37 := X3.o.at_ 7
    have p38 := X3.o.at_ 8
    have p39 := X3.o.at_ 9
    simp only [LineR.val]
    clear HT HM HP HR HPA HRA HAL XS X0 X1 X2 X3
    go_wp2_with fail
    go_ret
    exact ⟨rfl, HB7b.o⟩
end Go.Proofs.YtekihjffefokjaaDoor
