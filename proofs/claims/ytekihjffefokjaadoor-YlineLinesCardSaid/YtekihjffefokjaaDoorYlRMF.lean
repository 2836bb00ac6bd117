/-
  WALKS: the document's own Line: other lines.
-/
import Derived.Test.YtekihjffefokjaaDoorYlRLh
import Derived.Deep.DeepCutAuto
namespace Go.Proofs.YtekihjffefokjaaDoor
open Go.RowKit

set_option maxHeartbeats 4000000 in
set_option maxRecDepth 1000000 in
theorem rl_F (s : ByteArray) (a b N : Nat) (V : LineR × Int × Int) (w : World) (hs : s.size ≤ 1099511627776) (hab : a ≤ b) (hbs : b ≤ s.size)
    (hlf : ∀ i, i < (s.extract a b).size → byt (s.extract a b) i ≠ 10) (hcl : cleanM (s.extract a b) true = (s.extract a b).size)
    (hN : blk (s.extract a b) 0 = N) (_ke F0 : Nat) (hA : N < (s.extract a b).size) (hB : byt (s.extract a b) N ≠ 35) (hQ : byt (s.extract a b) N = 34 ∨ byt (s.extract a b) N = 39 → look ((s.extract a b).extract N (s.extract a b).size) 0 ≠ 0)
    (hK : (keyM ((s.extract a b).extract N (s.extract a b).size) 0).2 = true) (hH : headM ((s.extract a b).extract N (s.extract a b).size) = (0, 5)) (hF : F0 = N) (hFs : F0 ≤ (s.extract a b).size) (F1 C R : Nat) (n0 n1 : Int) (hF1 : blk (s.extract a b) F0 = F1)
    (hC : cmtTo (s.extract a b) (F1 + look ((s.extract a b).extract F1 (s.extract a b).size) 0) = C) (hCF : F1 ≤ C) (hR : trm (s.extract a b) F1 C = R)
    (hn : if C < (s.extract a b).size then n0 = (a : Int) + (C : Int) ∧ n1 = (b : Int) else n0 = 0 ∧ n1 = 0) (hV : V = (⟨5, a, b, N, 0, 0, (a : Int) + (F1 : Int), (a : Int) + (R : Int), n0, n1⟩, (b : Int), 0)) :
    Calls Tryd.prog 16 #[.string s, .agg #[.int .i64 (a : Int), .int .i64 (b : Int)]] w (LinePost V w) := by
  have hBA := (below_alloc w (.cells #[.int .i64 (a : Int), .int .i64 (b : Int)] 23)).alloc (by simp) (.cells zero10 26)
  have hX1 := (Whole.made w 23 #[.int .i64 (a : Int), .int .i64 (b : Int)]).alloc (.cells zero10 26)
  have hX2 := Whole.made (w.alloc (.cells #[.int .i64 (a : Int), .int .i64 (b : Int)] 23)) 26 zero10
  rw [World.size_alloc] at hX2
  have hwz : ((w.alloc (.cells #[.int .i64 (a : Int), .int .i64 (b : Int)] 23)).alloc (.cells zero10 26)).heap.size = w.heap.size + 1 + 1 := by simp
  have HBA := hq hBA
  have HX1 := hq hX1
  have HX2 := hq hX2
  have HWZ := hq hwz
  have htz : (s.extract a b).size = b - a := by rw [ByteArray.size_extract]; omega
  have HW := hq (fun W => rwrong_any (s.extract a b) true W (by omega))
  clear hBA hwz
  rw [hcl] at HW
  have HTZ := hq htz
  have htz1 : (s.extract a b).size ≤ 1099511627776 := by omega
  have hNs : N ≤ (s.extract a b).size := by rw [← hN]; exact blk_le _ _ (Nat.zero_le _)
  have HLF := hq hlf
  have HBK := hq hN
  clear hlf hcl hN htz
  have c0 := hX1.at_ 0
  have c1 := hX1.at_ 1
  clear hX1 hX2
  have HA := hq hA
  have HB := hq hB
  have HQ := hq hQ
  have HK := hq hK
  have HH0 := hq hH
  have HF := hq hF
  have HF1 := hq hF1
  have HC := hq hC
  have HR := hq hR
  have Hn := hq hn
  have HV := hq hV
  clear hA hB hQ hK hH hF hF1 hC hR hn hV
  go_enter Tryd.func16, Tryd.ntmps16
  go_wp2_with fail
  generalize s.extract a b = t at *
  go_loop [8] (fun i => ∃ q : Nat, q ≤ t.size ∧ i = .int .i64 (q : Int)) (fun i => t.size - (intOf i).toNat)
  case atStart => exact ⟨0, Nat.zero_le _, rfl⟩
  case round =>
    obtain ⟨q, hqt, rfl⟩ := hrel
    by_cases h : q < t.size
    · have y0 : ((t[q]'h).toNat : Int) = (byt t q : Int) := by rw [byt_eq t q h]
      have e1 : ((byt t q : Int) == 10) = false := beq_int_false (HLF.o q h)
      generalize byt t q = c0 at *
      go_wp2_with fail
      go_round
      case rel => exact ⟨q + 1, h, int_eq (by omega)⟩
      case measure => simp [intOf]; omega
    · have h' : ¬ (q : Int) < (t.size : Int) := by omega
      clear HLF
      go_wp2_with fail
      refine (HW.o _).mono ?_
      rintro e w' ⟨rfl, rfl⟩
      clear HW
      go_wp2_with fail
      go_loop [9] (fun i => ∃ q : Nat, q ≤ N ∧ i = .int .i64 (q : Int) ∧ Hq (blk t q = N)) (fun i => t.size - (intOf i).toNat)
      case atStart => exact ⟨0, Nat.zero_le _, rfl, HBK⟩
      case round =>
        obtain ⟨n, hqn, rfl, hqb⟩ := hrel
        clear HBK h'
        by_cases hb : n < t.size ∧ byt t n = 32
        · obtain ⟨h1, h2⟩ := hb
          have y0 : ((t[n]'h1).toNat : Int) = (byt t n : Int) := by rw [byt_eq t n h1]
          have e1 : ((byt t n : Int) == 32) = true := beq_int_true h2
          have HB2 : Hq (blk t (n + 1) = N) := hq (by rw [← blk_step h1 h2]; exact hqb.o)
          have hnN : n + 1 ≤ N := by rw [← HB2.o]; exact blk_ge _ _
          clear hqb h2
          generalize byt t n = c0 at *
          go_wp2_with fail
          go_round
          case rel => exact ⟨n + 1, hnN, int_eq (by omega), HB2⟩
          case measure => simp [intOf]; omega
        · obtain rfl : n = N := by rw [← hqb.o]; exact (blk_stop hb).symm
          have HNB := hq hb
          clear hqb hb hqn
          have hA := HA.o
          have hB := HB.o
          have y0 : ((t[n]'hA).toNat : Int) = (byt t n : Int) := by rw [byt_eq t n hA]
          have g0 : ((byt t n : Int) == 32) = false := beq_int_false (fun h => HNB.o ⟨hA, h⟩)
          have g1 : ((byt t n : Int) == 35) = false := beq_int_false hB
          have g2 : ((n : Int) == (t.size : Int)) = false := beq_eq_false_iff_ne.2 (by omega)
          have hvz : (t.extract n t.size).size = t.size - n := by rw [ByteArray.size_extract]; omega
          have HE := hq (fun W => rends_any (t.extract n t.size) W (by omega))
          have HH := hq (fun W => rhead_any (t.extract n t.size) W (by omega) (by omega) HK.o)
          rw [HH0.o] at HH
          have HQ2 : Hq (byt t n = 34 ∨ byt t n = 39 → ((look (t.extract n t.size) 0 : Int) == 0) = false) := hq (fun h => beq_eq_false_iff_ne.2 (by have := HQ.o h; omega))
          generalize look (t.extract n t.size) 0 = LK at *
          clear HB HK HH0 HQ hvz hB HNB
          have Z1 := HX1.o.alloc (.cells #[.int .i64 1, .int .i64 (a : Int), .int .i64 (b : Int), .int .i64 (n : Int), .int .i64 0, .int .i64 0, .int .i64 ((a : Int) + (n : Int)), .int .i64 ((a : Int) + (n : Int)), .int .i64 0, .int .i64 0] 26)
          have Z2 := HX2.o.alloc (.cells #[.int .i64 1, .int .i64 (a : Int), .int .i64 (b : Int), .int .i64 (n : Int), .int .i64 0, .int .i64 0, .int .i64 ((a : Int) + (n : Int)), .int .i64 ((a : Int) + (n : Int)), .int .i64 0, .int .i64 0] 26)
          have Z3 := Whole.made ((w.alloc (.cells #[.int .i64 (a : Int), .int .i64 (b : Int)] 23)).alloc (.cells zero10 26)) 26 #[.int .i64 1, .int .i64 (a : Int), .int .i64 (b : Int), .int .i64 (n : Int), .int .i64 0, .int .i64 0, .int .i64 ((a : Int) + (n : Int)), .int .i64 ((a : Int) + (n : Int)), .int .i64 0, .int .i64 0]
          rw [HWZ.o] at Z3
          have HB4 := hq (HBA.o.alloc (by rw [HWZ.o]; omega) (.cells #[.int .i64 1, .int .i64 (a : Int), .int .i64 (b : Int), .int .i64 (n : Int), .int .i64 0, .int .i64 0, .int .i64 ((a : Int) + (n : Int)), .int .i64 ((a : Int) + (n : Int)), .int .i64 0, .int .i64 0] 26))
          have hz4 : (((w.alloc (.cells #[.int .i64 (a : Int), .int .i64 (b : Int)] 23)).alloc (.cells zero10 26)).alloc (.cells #[.int .i64 1, .int .i64 (a : Int), .int .i64 (b : Int), .int .i64 (n : Int), .int .i64 0, .int .i64 0, .int .i64 ((a : Int) + (n : Int)), .int .i64 ((a : Int) + (n : Int)), .int .i64 0, .int .i64 0] 26)).heap.size = w.heap.size + 1 + 1 + 1 := by simp
          have HRL := hq (show RL w a b #[.int .i64 1, .int .i64 (a : Int), .int .i64 (b : Int), .int .i64 (n : Int), .int .i64 0, .int .i64 0, .int .i64 ((a : Int) + (n : Int)), .int .i64 ((a : Int) + (n : Int)), .int .i64 0, .int .i64 0] (((w.alloc (.cells #[.int .i64 (a : Int), .int .i64 (b : Int)] 23)).alloc (.cells zero10 26)).alloc (.cells #[.int .i64 1, .int .i64 (a : Int), .int .i64 (b : Int), .int .i64 (n : Int), .int .i64 0, .int .i64 0, .int .i64 ((a : Int) + (n : Int)), .int .i64 ((a : Int) + (n : Int)), .int .i64 0, .int .i64 0] 26)) from ⟨HB4.o, Z1, Z2, Z3, by rw [hz4]; omega⟩)
          clear Z1 Z2 Z3 HB4 HX1 HX2 HBA HWZ hz4
          go_upto_region 23 with fail
          generalize ((w.alloc (.cells #[.int .i64 (a : Int), .int .i64 (b : Int)] 23)).alloc (.cells zero10 26)).alloc (.cells #[.int .i64 1, .int .i64 (a : Int), .int .i64 (b : Int), .int .i64 (n : Int), .int .i64 0, .int .i64 0, .int .i64 ((a : Int) + (n : Int)), .int .i64 ((a : Int) + (n : Int)), .int .i64 0, .int .i64 0] 26) = wz at *
          clear c0 c1
          go_cut [121] (fun z wx => z = .bool false ∧ RL w a b #[.int .i64 1, .int .i64 (a : Int), .int .i64 (b : Int), .int .i64 (n : Int), .int .i64 0, .int .i64 0, .int .i64 ((a : Int) + (n : Int)), .int .i64 ((a : Int) + (n : Int)), .int .i64 0, .int .i64 0] wx)
          case first =>
            by_cases h34 : byt t n = 34
            · have g3 : ((byt t n : Int) == 34) = true := beq_int_true h34
              have g4 := HQ2.o (.inl h34)
              clear HQ2 h34 HH
              generalize byt t n = x0 at *
              go_wp2_with fail
              refine (HE.o _).mono ?_
              rintro e w1 ⟨rfl, hb1⟩
              go_wp2_with fail
              go_meet
              exact ⟨rfl, HRL.o.grow hb1⟩
            · have g3 : ((byt t n : Int) == 34) = false := beq_int_false h34
              by_cases h39 : byt t n = 39
              · have g5 : ((byt t n : Int) == 39) = true := beq_int_true h39
                have g4 := HQ2.o (.inr h39)
                clear HQ2 h34 h39 HH
                generalize byt t n = x0 at *
                go_wp2_with fail
                refine (HE.o _).mono ?_
                rintro e w1 ⟨rfl, hb1⟩
                go_wp2_with fail
                go_meet
                exact ⟨rfl, HRL.o.grow hb1⟩
              · have g5 : ((byt t n : Int) == 39) = false := beq_int_false h39
                clear HQ2 h34 h39 HH HE
                generalize byt t n = x0 at *
                go_wp2_with fail
                go_meet
                exact ⟨rfl, HRL.o⟩
          case rest =>
            clear HQ2 HE HRL g0 g1 g2 y0
            obtain ⟨rfl, hrl⟩ := hcut
            have HRL := hq hrl
            clear hrl
            go_wp2_with fail
            refine (HH.o _).mono ?_
            rintro e w1 ⟨rfl, hb1⟩
            clear HH
            have hrl1 := HRL.o.grow hb1
            obtain ⟨HB5, Z1, Z2, Z3, hz5⟩ := hrl1
            have HZ := hq (show RL w a b #[.int .i64 1, .int .i64 (a : Int), .int .i64 (b : Int), .int .i64 (n : Int), .int .i64 0, .int .i64 0, .int .i64 ((a : Int) + (n : Int)), .int .i64 ((a : Int) + (n : Int)), .int .i64 0, .int .i64 0] w1 from ⟨HB5, Z1, Z2, Z3, hz5⟩)
            have d0 := Z1.at_ 0
            have d1 := Z1.at_ 1
            have m0 := Z3.at_ 0
            have mf0 := Z3.free 0
            clear hb1 HRL Z1 Z2 Z3 HB5 hz5
            go_upto_region 33 with fail
            have HZ2 := hq (show RL w a b #[.int .i64 5, .int .i64 (a : Int), .int .i64 (b : Int), .int .i64 (n : Int), .int .i64 0, .int .i64 0, .int .i64 ((a : Int) + (n : Int)), .int .i64 ((a : Int) + (n : Int)), .int .i64 0, .int .i64 0] (w1.setCell ⟨w.heap.size + 1 + 1, 0, none⟩ (.int .i64 5)) from HZ.o.put 0 _)
            generalize (w1.setCell ⟨w.heap.size + 1 + 1, 0, none⟩ (.int .i64 5)) = w2 at *
            clear HZ d0 d1 m0 mf0
            have hF := HF.o
            have hzf : ((n : Nat) : Int) = (F0 : Int) := by omega
            have hzf2 : (n : Int) = (F0 : Int) := by omega
            have HZF := hq hzf2
            clear hzf hzf2 HF
            go_loop [14] (fun i => ∃ q : Nat, q ≤ F1 ∧ i = .int .i64 (q : Int) ∧ Hq (blk t q = F1)) (fun i => t.size - (intOf i).toNat)
            case atStart => exact ⟨F0, by rw [← HF1.o]; exact blk_ge _ _, int_eq HZF.o, HF1⟩
            case round =>
              obtain ⟨f, hqn, rfl, hqb⟩ := hrel
              have hF1s : F1 ≤ t.size := by rw [← HF1.o]; exact blk_le _ _ hFs
              clear HZF
              by_cases hb : f < t.size ∧ byt t f = 32
              · obtain ⟨h1, h2⟩ := hb
                have y0 : ((t[f]'h1).toNat : Int) = (byt t f : Int) := by rw [byt_eq t f h1]
                have e1 : ((byt t f : Int) == 32) = true := beq_int_true h2
                have HB2 : Hq (blk t (f + 1) = F1) := hq (by rw [← blk_step h1 h2]; exact hqb.o)
                have hnN : f + 1 ≤ F1 := by rw [← HB2.o]; exact blk_ge _ _
                clear hqb h2 HF1
                generalize byt t f = x0 at *
                go_wp2_with fail
                go_round
                case rel => exact ⟨f + 1, hnN, int_eq (by omega), HB2⟩
                case measure => simp [intOf]; omega
              · obtain rfl : f = F1 := by rw [← hqb.o]; exact (blk_stop hb).symm
                have HNB := hq hb
                have hvz : (t.extract f t.size).size = t.size - f := by rw [ByteArray.size_extract]; omega
                have HE := hq (fun W => rends_any (t.extract f t.size) W (by omega))
                have hlk := (look_bd (t.extract f t.size) 0 (Nat.zero_le _)).2
                rw [hvz] at hlk
                have hbt : (f : Int) < (t.size : Int) → (∃ h : f < t.size, ((t[f]'h).toNat : Int) = (byt t f : Int) ∧ ((byt t f : Int) == 32) = false) := fun h => ⟨by omega, by rw [byt_eq t f (by omega)], beq_int_false (fun h2 => hb ⟨by omega, h2⟩)⟩
                clear hqb hb hvz HF1
                generalize look (t.extract f t.size) 0 = LF at *
                have HC1 := hq (fun W => rcomment_any t (f + LF) W (by omega) (by omega))
                rw [HC.o] at HC1
                have HC2 : Hq (((f + LF : Nat) : Int) = (f : Int) + (LF : Int)) := hq (by omega)
                rw [HC2.o] at HC1
                have hCs : C ≤ t.size := by rw [← HC.o]; exact cmtTo_le _ _ (by omega)
                clear HC HC2 HNB
                go_upto_region 33 with fail
                go_cut [159] from 150 to 161 (fun z wx => z = .bool false ∧ wx = w2)
                case first =>
                  by_cases hlt : (f : Int) < (t.size : Int)
                  · obtain ⟨h1, y0, e1⟩ := hbt hlt
                    clear hbt
                    generalize byt t f = x0 at *
                    go_wp2_with fail
                    go_meet
                    exact ⟨rfl, rfl⟩
                  · clear hbt
                    go_wp2_with fail
                    go_meet
                    exact ⟨rfl, rfl⟩
                case rest =>
                  obtain ⟨rfl, rfl⟩ := hcut
                  clear hbt
                  go_wp2_with fail
                  refine (HE.o _).mono ?_
                  rintro e w3 ⟨rfl, hb3⟩
                  have HZ3 := hq (HZ2.o.grow hb3)
                  clear HE hb3 HZ2
                  go_wp2_with fail
                  refine (HC1.o _).mono ?_
                  rintro e w' ⟨rfl, rfl⟩
                  clear HC1
                  obtain ⟨_, Z1, Z2, Z3, hz5⟩ := HZ3.o
                  have d0 := Z1.at_ 0
                  have d1 := Z1.at_ 1
                  have m8 := Z3.at_ 8
                  have mf8 := Z3.free 8
                  have m9 := Z3.at_ 9
                  have mf9 := Z3.free 9
                  clear Z1 Z2 Z3 hz5
                  by_cases hcs : C < t.size
                  · have hn := Hn.o
                    rw [if_pos hcs] at hn
                    obtain ⟨rfl, rfl⟩ := hn
                    clear Hn
                    go_upto_region 38 with fail
                    have HZ4 := hq (show RL w a b #[.int .i64 5, .int .i64 (a : Int), .int .i64 (b : Int), .int .i64 (n : Int), .int .i64 0, .int .i64 0, .int .i64 ((a : Int) + (n : Int)), .int .i64 ((a : Int) + (n : Int)), .int .i64 ((a : Int) + (C : Int)), .int .i64 (b : Int)] ((w3.setCell ⟨w.heap.size + 1 + 1, 8, none⟩ (.int .i64 ((a : Int) + (C : Int)))).setCell ⟨w.heap.size + 1 + 1, 9, none⟩ (.int .i64 (b : Int))) from (HZ3.o.put 8 _).put 9 _)
                    generalize ((w3.setCell ⟨w.heap.size + 1 + 1, 8, none⟩ (.int .i64 ((a : Int) + (C : Int)))).setCell ⟨w.heap.size + 1 + 1, 9, none⟩ (.int .i64 (b : Int))) = w4 at *
                    clear HZ3 d0 d1 m8 m9 mf8 mf9
                    go_loop [15] (fun i => ∃ q : Nat, f ≤ q ∧ q ≤ C ∧ i = .int .i64 (q : Int) ∧ Hq (trm t f q = R)) (fun i => (intOf i).toNat)
                    case atStart => exact ⟨C, hCF, Nat.le_refl _, rfl, HR⟩
                    case round =>
                      obtain ⟨q, hq1, hq2, rfl, hqr⟩ := hrel
                      by_cases hb : f < q ∧ byt t (q - 1) = 32
                      · obtain ⟨h1, h2⟩ := hb
                        have hl : q - 1 < t.size := by omega
                        have y0 : ((t[q - 1]'hl).toNat : Int) = (byt t (q - 1) : Int) := by rw [byt_eq t (q - 1) hl]
                        have hz : ((q : Int) - 1).toNat = q - 1 := by omega
                        have e1 : ((byt t (q - 1) : Int) == 32) = true := beq_int_true h2
                        have HB2 : Hq (trm t f (q - 1) = R) := hq (by rw [← trm_step h1 h2]; exact hqr.o)
                        clear hqr h2 HR
                        generalize byt t (q - 1) = x0 at *
                        go_wp2_with fail
                        go_round
                        case rel => exact ⟨q - 1, by omega, by omega, int_eq (by omega), HB2⟩
                        case measure => simp [intOf]; omega
                      · obtain rfl : q = R := by
                          rw [← hqr.o]
                          by_cases h1 : f < q
                          · exact (trm_stop h1 (fun h => hb ⟨h1, h⟩)).symm
                          · rw [trm_end h1 hq1]; omega
                        have HNB := hq hb
                        clear hqr hb HR
                        go_upto_region 38 with fail
                        go_cut [191] from 182 to 193 (fun z wx => z = .bool false ∧ wx = w4)
                        case first =>
                          by_cases h1 : f < q
                          · have hl : q - 1 < t.size := by omega
                            have y0 : ((t[q - 1]'hl).toNat : Int) = (byt t (q - 1) : Int) := by rw [byt_eq t (q - 1) hl]
                            have hz : ((q : Int) - 1).toNat = q - 1 := by omega
                            have e1 : ((byt t (q - 1) : Int) == 32) = false := beq_int_false (fun h => HNB.o ⟨h1, h⟩)
                            clear HNB
                            generalize byt t (q - 1) = x0 at *
                            go_wp2_with fail
                            go_meet
                            exact ⟨rfl, rfl⟩
                          · have h1' : ¬ (f : Int) < (q : Int) := by omega
                            clear HNB
                            go_wp2_with fail
                            go_meet
                            exact ⟨rfl, rfl⟩
                        case rest =>
                          obtain ⟨rfl, rfl⟩ := hcut
                          obtain ⟨_, Z1, Z2, Z3, hz5⟩ := HZ4.o
                          have d0 := Z1.at_ 0
                          have d1 := Z1.at_ 1
                          have m6 := Z3.at_ 6
                          have mf6 := Z3.free 6
                          have m7 := Z3.at_ 7
                          have mf7 := Z3.free 7
                          have hmax : max (q : Int) (f : Int) = (q : Int) := by omega
                          clear HNB Z1 Z2 Z3 hz5
                          go_upto_region 41 with fail
                          obtain ⟨hB4, Z1, Z2, Z3, hz5⟩ : RL w a b #[.int .i64 5, .int .i64 (a : Int), .int .i64 (b : Int), .int .i64 (n : Int), .int .i64 0, .int .i64 0, .int .i64 ((a : Int) + (f : Int)), .int .i64 ((a : Int) + (q : Int)), .int .i64 ((a : Int) + (C : Int)), .int .i64 (b : Int)] ((wc.setCell ⟨w.heap.size + 1 + 1, 6, none⟩ (.int .i64 ((a : Int) + (f : Int)))).setCell ⟨w.heap.size + 1 + 1, 7, none⟩ (.int .i64 ((a : Int) + (q : Int)))) := (HZ4.o.put 6 _).put 7 _
                          have HB4 := hq hB4
                          have HZ5 := hq hz5
                          generalize ((wc.setCell ⟨w.heap.size + 1 + 1, 6, none⟩ (.int .i64 ((a : Int) + (f : Int)))).setCell ⟨w.heap.size + 1 + 1, 7, none⟩ (.int .i64 ((a : Int) + (q : Int)))) = wz at *
                          clear hB4 hz5 HZ4 hmax d0 d1 m6 m7 mf6 mf7
                          have n0 := Z3.at_ 0
                          have n1 := Z3.at_ 1
                          have n2 := Z3.at_ 2
                          have n3 := Z3.at_ 3
                          have n4 := Z3.at_ 4
                          have n5 := Z3.at_ 5
                          have n6 := Z3.at_ 6
                          have n7 := Z3.at_ 7
                          have n8 := Z3.at_ 8
                          have n9 := Z3.at_ 9
                          have d1 := Z1.at_ 1
                          have e0 := Z2.at_ 0
                          have f0 := Z2.free 0
                          have e1 := Z2.at_ 1
                          have f1 := Z2.free 1
                          have e2 := Z2.at_ 2
                          have f2 := Z2.free 2
                          have e3 := Z2.at_ 3
                          have f3 := Z2.free 3
                          have e4 := Z2.at_ 4
                          have f4 := Z2.free 4
                          have e5 := Z2.at_ 5
                          have f5 := Z2.free 5
                          have e6 := Z2.at_ 6
                          have f6 := Z2.free 6
                          have e7 := Z2.at_ 7
                          have f7 := Z2.free 7
                          have e8 := Z2.at_ 8
                          have f8 := Z2.free 8
                          have e9 := Z2.at_ 9
                          have f9 := Z2.free 9
                          clear Z1 Z2 Z3
                          go_region
                          go_wp2_with fail
                          refine bodyPost_ret (v := .tuple #[.agg #[.int .i64 5, .int .i64 (a : Int), .int .i64 (b : Int), .int .i64 (n : Int), .int .i64 0, .int .i64 0, .int .i64 ((a : Int) + (f : Int)), .int .i64 ((a : Int) + (q : Int)), .int .i64 ((a : Int) + (C : Int)), .int .i64 (b : Int)], .int .i64 (b : Int), .int .i64 0]) ?_ rfl ⟨by rw [HV.o]; try rfl, ?_⟩
                          · simp [results, Tryd.results16, go_sem, e0, e1, e2, e3, e4, e5, e6, e7, e8, e9]
                          · exact ((((((((((HB4.o.setCell (by simp) _).setCell (by simp) _).setCell (by simp) _).setCell (by simp) _).setCell (by simp) _).setCell (by simp) _).setCell (by simp) _).setCell (by simp) _).setCell (by simp) _).setCell (by simp) _).drew
                  · have hn := Hn.o
                    rw [if_neg hcs] at hn
                    obtain ⟨rfl, rfl⟩ := hn
                    clear Hn d0 d1 m8 m9 mf8 mf9
                    go_upto_region 38 with fail
                    go_loop [15] (fun i => ∃ q : Nat, f ≤ q ∧ q ≤ C ∧ i = .int .i64 (q : Int) ∧ Hq (trm t f q = R)) (fun i => (intOf i).toNat)
                    case atStart => exact ⟨C, hCF, Nat.le_refl _, rfl, HR⟩
                    case round =>
                      obtain ⟨q, hq1, hq2, rfl, hqr⟩ := hrel
                      by_cases hb : f < q ∧ byt t (q - 1) = 32
                      · obtain ⟨h1, h2⟩ := hb
                        have hl : q - 1 < t.size := by omega
                        have y0 : ((t[q - 1]'hl).toNat : Int) = (byt t (q - 1) : Int) := by rw [byt_eq t (q - 1) hl]
                        have hz : ((q : Int) - 1).toNat = q - 1 := by omega
                        have e1 : ((byt t (q - 1) : Int) == 32) = true := beq_int_true h2
                        have HB2 : Hq (trm t f (q - 1) = R) := hq (by rw [← trm_step h1 h2]; exact hqr.o)
                        clear hqr h2 HR
                        generalize byt t (q - 1) = x0 at *
                        go_wp2_with fail
                        go_round
                        case rel => exact ⟨q - 1, by omega, by omega, int_eq (by omega), HB2⟩
                        case measure => simp [intOf]; omega
                      · obtain rfl : q = R := by
                          rw [← hqr.o]
                          by_cases h1 : f < q
                          · exact (trm_stop h1 (fun h => hb ⟨h1, h⟩)).symm
                          · rw [trm_end h1 hq1]; omega
                        have HNB := hq hb
                        clear hqr hb HR
                        go_upto_region 38 with fail
                        go_cut [191] from 182 to 193 (fun z wx => z = .bool false ∧ wx = w3)
                        case first =>
                          by_cases h1 : f < q
                          · have hl : q - 1 < t.size := by omega
                            have y0 : ((t[q - 1]'hl).toNat : Int) = (byt t (q - 1) : Int) := by rw [byt_eq t (q - 1) hl]
                            have hz : ((q : Int) - 1).toNat = q - 1 := by omega
                            have e1 : ((byt t (q - 1) : Int) == 32) = false := beq_int_false (fun h => HNB.o ⟨h1, h⟩)
                            clear HNB
                            generalize byt t (q - 1) = x0 at *
                            go_wp2_with fail
                            go_meet
                            exact ⟨rfl, rfl⟩
                          · have h1' : ¬ (f : Int) < (q : Int) := by omega
                            clear HNB
                            go_wp2_with fail
                            go_meet
                            exact ⟨rfl, rfl⟩
                        case rest =>
                          obtain ⟨rfl, rfl⟩ := hcut
                          obtain ⟨_, Z1, Z2, Z3, hz5⟩ := HZ3.o
                          have d0 := Z1.at_ 0
                          have d1 := Z1.at_ 1
                          have m6 := Z3.at_ 6
                          have mf6 := Z3.free 6
                          have m7 := Z3.at_ 7
                          have mf7 := Z3.free 7
                          have hmax : max (q : Int) (f : Int) = (q : Int) := by omega
                          clear HNB Z1 Z2 Z3 hz5
                          go_upto_region 41 with fail
                          obtain ⟨hB4, Z1, Z2, Z3, hz5⟩ : RL w a b #[.int .i64 5, .int .i64 (a : Int), .int .i64 (b : Int), .int .i64 (n : Int), .int .i64 0, .int .i64 0, .int .i64 ((a : Int) + (f : Int)), .int .i64 ((a : Int) + (q : Int)), .int .i64 0, .int .i64 0] ((wc.setCell ⟨w.heap.size + 1 + 1, 6, none⟩ (.int .i64 ((a : Int) + (f : Int)))).setCell ⟨w.heap.size + 1 + 1, 7, none⟩ (.int .i64 ((a : Int) + (q : Int)))) := (HZ3.o.put 6 _).put 7 _
                          have HB4 := hq hB4
                          have HZ5 := hq hz5
                          generalize ((wc.setCell ⟨w.heap.size + 1 + 1, 6, none⟩ (.int .i64 ((a : Int) + (f : Int)))).setCell ⟨w.heap.size + 1 + 1, 7, none⟩ (.int .i64 ((a : Int) + (q : Int)))) = wz at *
                          clear hB4 hz5 HZ3 hmax d0 d1 m6 m7 mf6 mf7
                          have n0 := Z3.at_ 0
                          have n1 := Z3.at_ 1
                          have n2 := Z3.at_ 2
                          have n3 := Z3.at_ 3
                          have n4 := Z3.at_ 4
                          have n5 := Z3.at_ 5
                          have n6 := Z3.at_ 6
                          have n7 := Z3.at_ 7
                          have n8 := Z3.at_ 8
                          have n9 := Z3.at_ 9
                          have d1 := Z1.at_ 1
                          have e0 := Z2.at_ 0
                          have f0 := Z2.free 0
                          have e1 := Z2.at_ 1
                          have f1 := Z2.free 1
                          have e2 := Z2.at_ 2
                          have f2 := Z2.free 2
                          have e3 := Z2.at_ 3
                          have f3 := Z2.free 3
                          have e4 := Z2.at_ 4
                          have f4 := Z2.free 4
                          have e5 := Z2.at_ 5
                          have f5 := Z2.free 5
                          have e6 := Z2.at_ 6
                          have f6 := Z2.free 6
                          have e7 := Z2.at_ 7
                          have f7 := Z2.free 7
                          have e8 := Z2.at_ 8
                          have f8 := Z2.free 8
                          have e9 := Z2.at_ 9
                          have f9 := Z2.free 9
                          clear Z1 Z2 Z3
                          go_region
                          go_wp2_with fail
                          refine bodyPost_ret (v := .tuple #[.agg #[.int .i64 5, .int .i64 (a : Int), .int .i64 (b : Int), .int .i64 (n : Int), .int .i64 0, .int .i64 0, .int .i64 ((a : Int) + (f : Int)), .int .i64 ((a : Int) + (q : Int)), .int .i64 0, .int .i64 0], .int .i64 (b : Int), .int .i64 0]) ?_ rfl ⟨by rw [HV.o]; try rfl, ?_⟩
                          · simp [results, Tryd.results16, go_sem, e0, e1, e2, e3, e4, e5, e6, e7, e8, e9]
                          · exact ((((((((((HB4.o.setCell (by simp) _).setCell (by simp) _).setCell (by simp) _).setCell (by simp) _).setCell (by simp) _).setCell (by simp) _).setCell (by simp) _).setCell (by simp) _).setCell (by simp) _).setCell (by simp) _).drew
end Go.Proofs.YtekihjffefokjaaDoor
