/-
  WALKS: the document's own Line: blank lines, comments, quotes that are none.
-/
import Derived.Test.YtekihjffefokjaaDoorYlRLh
namespace Go.Proofs.YtekihjffefokjaaDoor
open Go.RowKit

set_option maxHeartbeats 4000000 in
set_option maxRecDepth 1000000 in
theorem rl_A (s : ByteArray) (a b N : Nat) (V : LineR × Int × Int) (w : World) (hs : s.size ≤ 1099511627776) (hab : a ≤ b) (hbs : b ≤ s.size)
    (hlf : ∀ i, i < (s.extract a b).size → byt (s.extract a b) i ≠ 10) (hcl : cleanM (s.extract a b) true = (s.extract a b).size)
    (hN : blk (s.extract a b) 0 = N) (hA : N = (s.extract a b).size) (hV : V = (lineT a b N (1, none, (N, N), none), (b : Int), 0)) :
    Calls Tryd.prog 16 #[.string s, .agg #[.int .i64 (a : Int), .int .i64 (b : Int)]] w (LinePost V w) := by
  have hBA := (below_alloc w (.cells #[.int .i64 (a : Int), .int .i64 (b : Int)] 23)).alloc (by simp) (.cells zero10 26)
  have hX1 := (Whole.made w 23 #[.int .i64 (a : Int), .int .i64 (b : Int)]).alloc (.cells zero10 26)
  have hX2 := Whole.made (w.alloc (.cells #[.int .i64 (a : Int), .int .i64 (b : Int)] 23)) 26 zero10
  rw [World.size_alloc] at hX2
  have hwz : ((w.alloc (.cells #[.int .i64 (a : Int), .int .i64 (b : Int)] 23)).alloc (.cells zero10 26)).heap.size = w.heap.size + 1 + 1 := by simp
  have HBA := hq hBA
  have HX1 := hq hX1
  have HX2 := hq hX2
  have HWZ := hq hwz
  have htz : (s.extract a b).size = b - a := by rw [ByteArray.size_extract]; omega
  have HW := hq (fun W => rwrong_any (s.extract a b) true W (by omega))
  clear hBA hwz
  rw [hcl] at HW
  have HTZ := hq htz
  have htz1 : (s.extract a b).size ≤ 1099511627776 := by omega
  have hNs : N ≤ (s.extract a b).size := by rw [← hN]; exact blk_le _ _ (Nat.zero_le _)
  have HLF := hq hlf
  have HBK := hq hN
  clear hlf hcl hN htz
  have c0 := hX1.at_ 0
  have c1 := hX1.at_ 1
  clear hX1 hX2
  have HA := hq hA
  have HV := hq hV
  clear hA hV
  go_enter Tryd.func16, Tryd.ntmps16
  go_wp2_with fail
  generalize s.extract a b = t at *
  go_loop [8] (fun i => ∃ q : Nat, q ≤ t.size ∧ i = .int .i64 (q : Int)) (fun i => t.size - (intOf i).toNat)
  case atStart => exact ⟨0, Nat.zero_le _, rfl⟩
  case round =>
    obtain ⟨q, hqt, rfl⟩ := hrel
    by_cases h : q < t.size
    · have y0 : ((t[q]'h).toNat : Int) = (byt t q : Int) := by rw [byt_eq t q h]
      have e1 : ((byt t q : Int) == 10) = false := beq_int_false (HLF.o q h)
      generalize byt t q = c0 at *
      go_wp2_with fail
      go_round
      case rel => exact ⟨q + 1, h, int_eq (by omega)⟩
      case measure => simp [intOf]; omega
    · have h' : ¬ (q : Int) < (t.size : Int) := by omega
      clear HLF
      go_wp2_with fail
      refine (HW.o _).mono ?_
      rintro e w' ⟨rfl, rfl⟩
      clear HW
      go_wp2_with fail
      go_loop [9] (fun i => ∃ q : Nat, q ≤ N ∧ i = .int .i64 (q : Int) ∧ Hq (blk t q = N)) (fun i => t.size - (intOf i).toNat)
      case atStart => exact ⟨0, Nat.zero_le _, rfl, HBK⟩
      case round =>
        obtain ⟨n, hqn, rfl, hqb⟩ := hrel
        clear HBK h'
        by_cases hb : n < t.size ∧ byt t n = 32
        · obtain ⟨h1, h2⟩ := hb
          have y0 : ((t[n]'h1).toNat : Int) = (byt t n : Int) := by rw [byt_eq t n h1]
          have e1 : ((byt t n : Int) == 32) = true := beq_int_true h2
          have HB2 : Hq (blk t (n + 1) = N) := hq (by rw [← blk_step h1 h2]; exact hqb.o)
          have hnN : n + 1 ≤ N := by rw [← HB2.o]; exact blk_ge _ _
          clear hqb h2
          generalize byt t n = c0 at *
          go_wp2_with fail
          go_round
          case rel => exact ⟨n + 1, hnN, int_eq (by omega), HB2⟩
          case measure => simp [intOf]; omega
        · obtain rfl : n = N := by rw [← hqb.o]; exact (blk_stop hb).symm
          have HNB := hq hb
          clear hqb hb hqn
          have hA := HA.o
          have g0 : ¬ (n : Int) < (t.size : Int) := by omega
          have g2 : ((n : Int) == (t.size : Int)) = true := beq_int_true hA
          clear hA
          go_upto_region 18 with fail
          have Z1 := HX1.o.alloc (.cells #[.int .i64 1, .int .i64 (a : Int), .int .i64 (b : Int), .int .i64 (n : Int), .int .i64 0, .int .i64 0, .int .i64 ((a : Int) + (n : Int)), .int .i64 ((a : Int) + (n : Int)), .int .i64 0, .int .i64 0] 26)
          have Z2 := HX2.o.alloc (.cells #[.int .i64 1, .int .i64 (a : Int), .int .i64 (b : Int), .int .i64 (n : Int), .int .i64 0, .int .i64 0, .int .i64 ((a : Int) + (n : Int)), .int .i64 ((a : Int) + (n : Int)), .int .i64 0, .int .i64 0] 26)
          have Z3 := Whole.made ((w.alloc (.cells #[.int .i64 (a : Int), .int .i64 (b : Int)] 23)).alloc (.cells zero10 26)) 26 #[.int .i64 1, .int .i64 (a : Int), .int .i64 (b : Int), .int .i64 (n : Int), .int .i64 0, .int .i64 0, .int .i64 ((a : Int) + (n : Int)), .int .i64 ((a : Int) + (n : Int)), .int .i64 0, .int .i64 0]
          rw [HWZ.o] at Z3
          have HB4 := hq (HBA.o.alloc (by rw [HWZ.o]; omega) (.cells #[.int .i64 1, .int .i64 (a : Int), .int .i64 (b : Int), .int .i64 (n : Int), .int .i64 0, .int .i64 0, .int .i64 ((a : Int) + (n : Int)), .int .i64 ((a : Int) + (n : Int)), .int .i64 0, .int .i64 0] 26))
          have HZ4 : Hq ((((w.alloc (.cells #[.int .i64 (a : Int), .int .i64 (b : Int)] 23)).alloc (.cells zero10 26)).alloc (.cells #[.int .i64 1, .int .i64 (a : Int), .int .i64 (b : Int), .int .i64 (n : Int), .int .i64 0, .int .i64 0, .int .i64 ((a : Int) + (n : Int)), .int .i64 ((a : Int) + (n : Int)), .int .i64 0, .int .i64 0] 26)).heap.size = w.heap.size + 1 + 1 + 1) := hq (by simp)
          generalize ((w.alloc (.cells #[.int .i64 (a : Int), .int .i64 (b : Int)] 23)).alloc (.cells zero10 26)).alloc (.cells #[.int .i64 1, .int .i64 (a : Int), .int .i64 (b : Int), .int .i64 (n : Int), .int .i64 0, .int .i64 0, .int .i64 ((a : Int) + (n : Int)), .int .i64 ((a : Int) + (n : Int)), .int .i64 0, .int .i64 0] 26) = wz at *
          have n0 := Z3.at_ 0
          have n1 := Z3.at_ 1
          have n2 := Z3.at_ 2
          have n3 := Z3.at_ 3
          have n4 := Z3.at_ 4
          have n5 := Z3.at_ 5
          have n6 := Z3.at_ 6
          have n7 := Z3.at_ 7
          have n8 := Z3.at_ 8
          have n9 := Z3.at_ 9
          have d1 := Z1.at_ 1
          have e0 := Z2.at_ 0
          have f0 := Z2.free 0
          have e1 := Z2.at_ 1
          have f1 := Z2.free 1
          have e2 := Z2.at_ 2
          have f2 := Z2.free 2
          have e3 := Z2.at_ 3
          have f3 := Z2.free 3
          have e4 := Z2.at_ 4
          have f4 := Z2.free 4
          have e5 := Z2.at_ 5
          have f5 := Z2.free 5
          have e6 := Z2.at_ 6
          have f6 := Z2.free 6
          have e7 := Z2.at_ 7
          have f7 := Z2.free 7
          have e8 := Z2.at_ 8
          have f8 := Z2.free 8
          have e9 := Z2.at_ 9
          have f9 := Z2.free 9
          clear Z1 Z2 Z3
          go_region
          go_wp2_with fail
          refine bodyPost_ret (v := .tuple #[.agg #[.int .i64 1, .int .i64 (a : Int), .int .i64 (b : Int), .int .i64 (n : Int), .int .i64 0, .int .i64 0, .int .i64 ((a : Int) + (n : Int)), .int .i64 ((a : Int) + (n : Int)), .int .i64 0, .int .i64 0], .int .i64 (b : Int), .int .i64 0]) ?_ rfl ⟨by rw [HV.o]; try rfl, ?_⟩
          · simp [results, Tryd.results16, go_sem, e0, e1, e2, e3, e4, e5, e6, e7, e8, e9]
          · exact ((((((((((HB4.o.setCell (by simp) _).setCell (by simp) _).setCell (by simp) _).setCell (by simp) _).setCell (by simp) _).setCell (by simp) _).setCell (by simp) _).setCell (by simp) _).setCell (by simp) _).setCell (by simp) _).drew

set_option maxHeartbeats 4000000 in
set_option maxRecDepth 1000000 in
theorem rl_B (s : ByteArray) (a b N : Nat) (V : LineR × Int × Int) (w : World) (hs : s.size ≤ 1099511627776) (hab : a ≤ b) (hbs : b ≤ s.size)
    (hlf : ∀ i, i < (s.extract a b).size → byt (s.extract a b) i ≠ 10) (hcl : cleanM (s.extract a b) true = (s.extract a b).size)
    (hN : blk (s.extract a b) 0 = N) (hA : N < (s.extract a b).size) (hB : byt (s.extract a b) N = 35) (hV : V = (lineT a b N (2, none, (N, N), some N), (b : Int), 0)) :
    Calls Tryd.prog 16 #[.string s, .agg #[.int .i64 (a : Int), .int .i64 (b : Int)]] w (LinePost V w) := by
  have hBA := (below_alloc w (.cells #[.int .i64 (a : Int), .int .i64 (b : Int)] 23)).alloc (by simp) (.cells zero10 26)
  have hX1 := (Whole.made w 23 #[.int .i64 (a : Int), .int .i64 (b : Int)]).alloc (.cells zero10 26)
  have hX2 := Whole.made (w.alloc (.cells #[.int .i64 (a : Int), .int .i64 (b : Int)] 23)) 26 zero10
  rw [World.size_alloc] at hX2
  have hwz : ((w.alloc (.cells #[.int .i64 (a : Int), .int .i64 (b : Int)] 23)).alloc (.cells zero10 26)).heap.size = w.heap.size + 1 + 1 := by simp
  have HBA := hq hBA
  have HX1 := hq hX1
  have HX2 := hq hX2
  have HWZ := hq hwz
  have htz : (s.extract a b).size = b - a := by rw [ByteArray.size_extract]; omega
  have HW := hq (fun W => rwrong_any (s.extract a b) true W (by omega))
  clear hBA hwz
  rw [hcl] at HW
  have HTZ := hq htz
  have htz1 : (s.extract a b).size ≤ 1099511627776 := by omega
  have hNs : N ≤ (s.extract a b).size := by rw [← hN]; exact blk_le _ _ (Nat.zero_le _)
  have HLF := hq hlf
  have HBK := hq hN
  clear hlf hcl hN htz
  have c0 := hX1.at_ 0
  have c1 := hX1.at_ 1
  clear hX1 hX2
  have HA := hq hA
  have HB := hq hB
  have HV := hq hV
  clear hA hB hV
  go_enter Tryd.func16, Tryd.ntmps16
  go_wp2_with fail
  generalize s.extract a b = t at *
  go_loop [8] (fun i => ∃ q : Nat, q ≤ t.size ∧ i = .int .i64 (q : Int)) (fun i => t.size - (intOf i).toNat)
  case atStart => exact ⟨0, Nat.zero_le _, rfl⟩
  case round =>
    obtain ⟨q, hqt, rfl⟩ := hrel
    by_cases h : q < t.size
    · have y0 : ((t[q]'h).toNat : Int) = (byt t q : Int) := by rw [byt_eq t q h]
      have e1 : ((byt t q : Int) == 10) = false := beq_int_false (HLF.o q h)
      generalize byt t q = c0 at *
      go_wp2_with fail
      go_round
      case rel => exact ⟨q + 1, h, int_eq (by omega)⟩
      case measure => simp [intOf]; omega
    · have h' : ¬ (q : Int) < (t.size : Int) := by omega
      clear HLF
      go_wp2_with fail
      refine (HW.o _).mono ?_
      rintro e w' ⟨rfl, rfl⟩
      clear HW
      go_wp2_with fail
      go_loop [9] (fun i => ∃ q : Nat, q ≤ N ∧ i = .int .i64 (q : Int) ∧ Hq (blk t q = N)) (fun i => t.size - (intOf i).toNat)
      case atStart => exact ⟨0, Nat.zero_le _, rfl, HBK⟩
      case round =>
        obtain ⟨n, hqn, rfl, hqb⟩ := hrel
        clear HBK h'
        by_cases hb : n < t.size ∧ byt t n = 32
        · obtain ⟨h1, h2⟩ := hb
          have y0 : ((t[n]'h1).toNat : Int) = (byt t n : Int) := by rw [byt_eq t n h1]
          have e1 : ((byt t n : Int) == 32) = true := beq_int_true h2
          have HB2 : Hq (blk t (n + 1) = N) := hq (by rw [← blk_step h1 h2]; exact hqb.o)
          have hnN : n + 1 ≤ N := by rw [← HB2.o]; exact blk_ge _ _
          clear hqb h2
          generalize byt t n = c0 at *
          go_wp2_with fail
          go_round
          case rel => exact ⟨n + 1, hnN, int_eq (by omega), HB2⟩
          case measure => simp [intOf]; omega
        · obtain rfl : n = N := by rw [← hqb.o]; exact (blk_stop hb).symm
          have HNB := hq hb
          clear hqb hb hqn
          have hA := HA.o
          have y0 : ((t[n]'hA).toNat : Int) = (byt t n : Int) := by rw [byt_eq t n hA]
          have g0 : ((byt t n : Int) == 32) = false := by rw [HB.o]; rfl
          have g1 : ((byt t n : Int) == 35) = true := by rw [HB.o]; rfl
          have g2 : ((n : Int) == (t.size : Int)) = false := beq_eq_false_iff_ne.2 (by omega)
          clear HB
          generalize byt t n = x0 at *
          go_upto_region 22 with fail
          have Z1 := HX1.o.alloc (.cells #[.int .i64 2, .int .i64 (a : Int), .int .i64 (b : Int), .int .i64 (n : Int), .int .i64 0, .int .i64 0, .int .i64 ((a : Int) + (n : Int)), .int .i64 ((a : Int) + (n : Int)), .int .i64 ((a : Int) + (n : Int)), .int .i64 (b : Int)] 26)
          have Z2 := HX2.o.alloc (.cells #[.int .i64 2, .int .i64 (a : Int), .int .i64 (b : Int), .int .i64 (n : Int), .int .i64 0, .int .i64 0, .int .i64 ((a : Int) + (n : Int)), .int .i64 ((a : Int) + (n : Int)), .int .i64 ((a : Int) + (n : Int)), .int .i64 (b : Int)] 26)
          have Z3 := Whole.made ((w.alloc (.cells #[.int .i64 (a : Int), .int .i64 (b : Int)] 23)).alloc (.cells zero10 26)) 26 #[.int .i64 2, .int .i64 (a : Int), .int .i64 (b : Int), .int .i64 (n : Int), .int .i64 0, .int .i64 0, .int .i64 ((a : Int) + (n : Int)), .int .i64 ((a : Int) + (n : Int)), .int .i64 ((a : Int) + (n : Int)), .int .i64 (b : Int)]
          rw [HWZ.o] at Z3
          have HB4 := hq (HBA.o.alloc (by rw [HWZ.o]; omega) (.cells #[.int .i64 2, .int .i64 (a : Int), .int .i64 (b : Int), .int .i64 (n : Int), .int .i64 0, .int .i64 0, .int .i64 ((a : Int) + (n : Int)), .int .i64 ((a : Int) + (n : Int)), .int .i64 ((a : Int) + (n : Int)), .int .i64 (b : Int)] 26))
          have HZ4 : Hq ((((w.alloc (.cells #[.int .i64 (a : Int), .int .i64 (b : Int)] 23)).alloc (.cells zero10 26)).alloc (.cells #[.int .i64 2, .int .i64 (a : Int), .int .i64 (b : Int), .int .i64 (n : Int), .int .i64 0, .int .i64 0, .int .i64 ((a : Int) + (n : Int)), .int .i64 ((a : Int) + (n : Int)), .int .i64 ((a : Int) + (n : Int)), .int .i64 (b : Int)] 26)).heap.size = w.heap.size + 1 + 1 + 1) := hq (by simp)
          generalize ((w.alloc (.cells #[.int .i64 (a : Int), .int .i64 (b : Int)] 23)).alloc (.cells zero10 26)).alloc (.cells #[.int .i64 2, .int .i64 (a : Int), .int .i64 (b : Int), .int .i64 (n : Int), .int .i64 0, .int .i64 0, .int .i64 ((a : Int) + (n : Int)), .int .i64 ((a : Int) + (n : Int)), .int .i64 ((a : Int) + (n : Int)), .int .i64 (b : Int)] 26) = wz at *
          have n0 := Z3.at_ 0
          have n1 := Z3.at_ 1
          have n2 := Z3.at_ 2
          have n3 := Z3.at_ 3
          have n4 := Z3.at_ 4
          have n5 := Z3.at_ 5
          have n6 := Z3.at_ 6
          have n7 := Z3.at_ 7
          have n8 := Z3.at_ 8
          have n9 := Z3.at_ 9
          have d1 := Z1.at_ 1
          have e0 := Z2.at_ 0
          have f0 := Z2.free 0
          have e1 := Z2.at_ 1
          have f1 := Z2.free 1
          have e2 := Z2.at_ 2
          have f2 := Z2.free 2
          have e3 := Z2.at_ 3
          have f3 := Z2.free 3
          have e4 := Z2.at_ 4
          have f4 := Z2.free 4
          have e5 := Z2.at_ 5
          have f5 := Z2.free 5
          have e6 := Z2.at_ 6
          have f6 := Z2.free 6
          have e7 := Z2.at_ 7
          have f7 := Z2.free 7
          have e8 := Z2.at_ 8
          have f8 := Z2.free 8
          have e9 := Z2.at_ 9
          have f9 := Z2.free 9
          clear Z1 Z2 Z3
          go_region
          go_wp2_with fail
          refine bodyPost_ret (v := .tuple #[.agg #[.int .i64 2, .int .i64 (a : Int), .int .i64 (b : Int), .int .i64 (n : Int), .int .i64 0, .int .i64 0, .int .i64 ((a : Int) + (n : Int)), .int .i64 ((a : Int) + (n : Int)), .int .i64 ((a : Int) + (n : Int)), .int .i64 (b : Int)], .int .i64 (b : Int), .int .i64 0]) ?_ rfl ⟨by rw [HV.o]; try rfl, ?_⟩
          · simp [results, Tryd.results16, go_sem, e0, e1, e2, e3, e4, e5, e6, e7, e8, e9]
          · exact ((((((((((HB4.o.setCell (by simp) _).setCell (by simp) _).setCell (by simp) _).setCell (by simp) _).setCell (by simp) _).setCell (by simp) _).setCell (by simp) _).setCell (by simp) _).setCell (by simp) _).setCell (by simp) _).drew

set_option maxHeartbeats 4000000 in
set_option maxRecDepth 1000000 in
theorem rl_D (s : ByteArray) (a b N : Nat) (V : LineR × Int × Int) (w : World) (hs : s.size ≤ 1099511627776) (hab : a ≤ b) (hbs : b ≤ s.size)
    (hlf : ∀ i, i < (s.extract a b).size → byt (s.extract a b) i ≠ 10) (hcl : cleanM (s.extract a b) true = (s.extract a b).size)
    (hN : blk (s.extract a b) 0 = N) (hA : N < (s.extract a b).size) (hB : byt (s.extract a b) N = 34 ∨ byt (s.extract a b) N = 39) (hL : look ((s.extract a b).extract N (s.extract a b).size) 0 = 0) (hV : V = (lineZ, (a : Int) + (N : Int), 2)) :
    Calls Tryd.prog 16 #[.string s, .agg #[.int .i64 (a : Int), .int .i64 (b : Int)]] w (LinePost V w) := by
  have hBA := (below_alloc w (.cells #[.int .i64 (a : Int), .int .i64 (b : Int)] 23)).alloc (by simp) (.cells zero10 26)
  have hX1 := (Whole.made w 23 #[.int .i64 (a : Int), .int .i64 (b : Int)]).alloc (.cells zero10 26)
  have hX2 := Whole.made (w.alloc (.cells #[.int .i64 (a : Int), .int .i64 (b : Int)] 23)) 26 zero10
  rw [World.size_alloc] at hX2
  have hwz : ((w.alloc (.cells #[.int .i64 (a : Int), .int .i64 (b : Int)] 23)).alloc (.cells zero10 26)).heap.size = w.heap.size + 1 + 1 := by simp
  have HBA := hq hBA
  have HX1 := hq hX1
  have HX2 := hq hX2
  have HWZ := hq hwz
  have htz : (s.extract a b).size = b - a := by rw [ByteArray.size_extract]; omega
  have HW := hq (fun W => rwrong_any (s.extract a b) true W (by omega))
  clear hBA hwz
  rw [hcl] at HW
  have HTZ := hq htz
  have htz1 : (s.extract a b).size ≤ 1099511627776 := by omega
  have hNs : N ≤ (s.extract a b).size := by rw [← hN]; exact blk_le _ _ (Nat.zero_le _)
  have HLF := hq hlf
  have HBK := hq hN
  clear hlf hcl hN htz
  have c0 := hX1.at_ 0
  have c1 := hX1.at_ 1
  clear hX1 hX2
  have HA := hq hA
  have HB := hq hB
  have HL := hq hL
  have HV := hq hV
  clear hA hB hL hV
  go_enter Tryd.func16, Tryd.ntmps16
  go_wp2_with fail
  generalize s.extract a b = t at *
  go_loop [8] (fun i => ∃ q : Nat, q ≤ t.size ∧ i = .int .i64 (q : Int)) (fun i => t.size - (intOf i).toNat)
  case atStart => exact ⟨0, Nat.zero_le _, rfl⟩
  case round =>
    obtain ⟨q, hqt, rfl⟩ := hrel
    by_cases h : q < t.size
    · have y0 : ((t[q]'h).toNat : Int) = (byt t q : Int) := by rw [byt_eq t q h]
      have e1 : ((byt t q : Int) == 10) = false := beq_int_false (HLF.o q h)
      generalize byt t q = c0 at *
      go_wp2_with fail
      go_round
      case rel => exact ⟨q + 1, h, int_eq (by omega)⟩
      case measure => simp [intOf]; omega
    · have h' : ¬ (q : Int) < (t.size : Int) := by omega
      clear HLF
      go_wp2_with fail
      refine (HW.o _).mono ?_
      rintro e w' ⟨rfl, rfl⟩
      clear HW
      go_wp2_with fail
      go_loop [9] (fun i => ∃ q : Nat, q ≤ N ∧ i = .int .i64 (q : Int) ∧ Hq (blk t q = N)) (fun i => t.size - (intOf i).toNat)
      case atStart => exact ⟨0, Nat.zero_le _, rfl, HBK⟩
      case round =>
        obtain ⟨n, hqn, rfl, hqb⟩ := hrel
        clear HBK h'
        by_cases hb : n < t.size ∧ byt t n = 32
        · obtain ⟨h1, h2⟩ := hb
          have y0 : ((t[n]'h1).toNat : Int) = (byt t n : Int) := by rw [byt_eq t n h1]
          have e1 : ((byt t n : Int) == 32) = true := beq_int_true h2
          have HB2 : Hq (blk t (n + 1) = N) := hq (by rw [← blk_step h1 h2]; exact hqb.o)
          have hnN : n + 1 ≤ N := by rw [← HB2.o]; exact blk_ge _ _
          clear hqb h2
          generalize byt t n = c0 at *
          go_wp2_with fail
          go_round
          case rel => exact ⟨n + 1, hnN, int_eq (by omega), HB2⟩
          case measure => simp [intOf]; omega
        · obtain rfl : n = N := by rw [← hqb.o]; exact (blk_stop hb).symm
          have HNB := hq hb
          clear hqb hb hqn
          have hA := HA.o
          have hB := HB.o
          have y0 : ((t[n]'hA).toNat : Int) = (byt t n : Int) := by rw [byt_eq t n hA]
          have g0 : ((byt t n : Int) == 32) = false := beq_eq_false_iff_ne.2 (by omega)
          have g1 : ((byt t n : Int) == 35) = false := beq_eq_false_iff_ne.2 (by omega)
          have g2 : ((n : Int) == (t.size : Int)) = false := beq_eq_false_iff_ne.2 (by omega)
          have HE := hq (fun W => rends_any (t.extract n t.size) W (by rw [ByteArray.size_extract]; omega))
          rw [HL.o] at HE
          clear HB HL
          have Z1 := HX1.o.alloc (.cells #[.int .i64 1, .int .i64 (a : Int), .int .i64 (b : Int), .int .i64 (n : Int), .int .i64 0, .int .i64 0, .int .i64 ((a : Int) + (n : Int)), .int .i64 ((a : Int) + (n : Int)), .int .i64 0, .int .i64 0] 26)
          have Z2 := HX2.o.alloc (.cells #[.int .i64 1, .int .i64 (a : Int), .int .i64 (b : Int), .int .i64 (n : Int), .int .i64 0, .int .i64 0, .int .i64 ((a : Int) + (n : Int)), .int .i64 ((a : Int) + (n : Int)), .int .i64 0, .int .i64 0] 26)
          have Z3 := Whole.made ((w.alloc (.cells #[.int .i64 (a : Int), .int .i64 (b : Int)] 23)).alloc (.cells zero10 26)) 26 #[.int .i64 1, .int .i64 (a : Int), .int .i64 (b : Int), .int .i64 (n : Int), .int .i64 0, .int .i64 0, .int .i64 ((a : Int) + (n : Int)), .int .i64 ((a : Int) + (n : Int)), .int .i64 0, .int .i64 0]
          rw [HWZ.o] at Z3
          have HB4 := hq (HBA.o.alloc (by rw [HWZ.o]; omega) (.cells #[.int .i64 1, .int .i64 (a : Int), .int .i64 (b : Int), .int .i64 (n : Int), .int .i64 0, .int .i64 0, .int .i64 ((a : Int) + (n : Int)), .int .i64 ((a : Int) + (n : Int)), .int .i64 0, .int .i64 0] 26))
          have HZ4 : Hq ((((w.alloc (.cells #[.int .i64 (a : Int), .int .i64 (b : Int)] 23)).alloc (.cells zero10 26)).alloc (.cells #[.int .i64 1, .int .i64 (a : Int), .int .i64 (b : Int), .int .i64 (n : Int), .int .i64 0, .int .i64 0, .int .i64 ((a : Int) + (n : Int)), .int .i64 ((a : Int) + (n : Int)), .int .i64 0, .int .i64 0] 26)).heap.size = w.heap.size + 1 + 1 + 1) := hq (by simp)
          -- generalize ((w.alloc (.cells #[.int .i64 (a : Int), .int .i64 (b : Int)] 23)).alloc (.cells zero10 26)).alloc (.cells #[.int .i64 1, .int .i64 (a : Int), .int .i64 (b : Int), .int .i64 (n : Int), .int .i64 0, .int .i64 0, .int .i64 ((a : Int) + (n : Int)), .int .i64 ((a : Int) + (n : Int)), .int .i64 0, .int .i64 0] 26) = wz at *
          rcases hB with hB | hB
          · have g3 : ((byt t n : Int) == 34) = true := by rw [hB]; rfl
            clear hB
            generalize byt t n = x0 at *
            go_wp2_with fail
            refine (HE.o _).mono ?_
            rintro e w1 ⟨rfl, hb1⟩
            have hz1 := hb1.size
            rw [HZ4.o] at hz1
            have Z2b := Z2.grow hb1
            have HB5 := hq (HB4.o.trans (hb1.mono (by rw [HZ4.o]; omega)))
            clear hb1 HE HB4 HZ4 Z1 Z2 Z3
            have e0 := Z2b.at_ 0
            have e1 := Z2b.at_ 1
            have e2 := Z2b.at_ 2
            have e3 := Z2b.at_ 3
            have e4 := Z2b.at_ 4
            have e5 := Z2b.at_ 5
            have e6 := Z2b.at_ 6
            have e7 := Z2b.at_ 7
            have e8 := Z2b.at_ 8
            have e9 := Z2b.at_ 9
            have f0 := Z2b.free 0
            have f1 := Z2b.free 1
            have f2 := Z2b.free 2
            have f3 := Z2b.free 3
            have f4 := Z2b.free 4
            have f5 := Z2b.free 5
            have f6 := Z2b.free 6
            have f7 := Z2b.free 7
            have f8 := Z2b.free 8
            have f9 := Z2b.free 9
            go_wp2_with fail
            refine bodyPost_ret (v := .tuple #[.agg zero10, .int .i64 ((a : Int) + (n : Int)), .int .i64 2]) ?_ rfl ⟨by rw [HV.o]; try rfl, ?_⟩
            · simp [results, Tryd.results16, go_sem, e0, e1, e2, e3, e4, e5, e6, e7, e8, e9]
            · exact (((((((((HB5.o.setCell (by simp) _).setCell (by simp) _).setCell (by simp) _).setCell (by simp) _).setCell (by simp) _).setCell (by simp) _).setCell (by simp) _).setCell (by simp) _).setCell (by simp) _).setCell (by simp) _
          · have g3 : ((byt t n : Int) == 34) = false := by rw [hB]; rfl
            have g4 : ((byt t n : Int) == 39) = true := by rw [hB]; rfl
            clear hB
            generalize byt t n = x0 at *
            go_wp2_with fail
            refine (HE.o _).mono ?_
            rintro e w1 ⟨rfl, hb1⟩
            have hz1 := hb1.size
            rw [HZ4.o] at hz1
            have Z2b := Z2.grow hb1
            have HB5 := hq (HB4.o.trans (hb1.mono (by rw [HZ4.o]; omega)))
            clear hb1 HE HB4 HZ4 Z1 Z2 Z3
            have e0 := Z2b.at_ 0
            have e1 := Z2b.at_ 1
            have e2 := Z2b.at_ 2
            have e3 := Z2b.at_ 3
            have e4 := Z2b.at_ 4
            have e5 := Z2b.at_ 5
            have e6 := Z2b.at_ 6
            have e7 := Z2b.at_ 7
            have e8 := Z2b.at_ 8
            have e9 := Z2b.at_ 9
            have f0 := Z2b.free 0
            have f1 := Z2b.free 1
            have f2 := Z2b.free 2
            have f3 := Z2b.free 3
            have f4 := Z2b.free 4
            have f5 := Z2b.free 5
            have f6 := Z2b.free 6
            have f7 := Z2b.free 7
            have f8 := Z2b.free 8
            have f9 := Z2b.free 9
            go_wp2_with fail
            refine bodyPost_ret (v := .tuple #[.agg zero10, .int .i64 ((a : Int) + (n : Int)), .int .i64 2]) ?_ rfl ⟨by rw [HV.o]; try rfl, ?_⟩
            · simp [results, Tryd.results16, go_sem, e0, e1, e2, e3, e4, e5, e6, e7, e8, e9]
            · exact (((((((((HB5.o.setCell (by simp) _).setCell (by simp) _).setCell (by simp) _).setCell (by simp) _).setCell (by simp) _).setCell (by simp) _).setCell (by simp) _).setCell (by simp) _).setCell (by simp) _).setCell (by simp) _
end Go.Proofs.YtekihjffefokjaaDoor
