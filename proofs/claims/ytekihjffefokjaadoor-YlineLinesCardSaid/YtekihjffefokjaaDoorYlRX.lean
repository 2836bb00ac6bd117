/-
  WALKS: the document's own Line: all ways.
-/
import Derived.Test.YtekihjffefokjaaDoorYlRLn
import Derived.Test.YtekihjffefokjaaDoorYlRMC
import Derived.Test.YtekihjffefokjaaDoorYlRME
import Derived.Test.YtekihjffefokjaaDoorYlRMF
import Derived.IntWalk
namespace Go.Proofs.YtekihjffefokjaaDoor
open Go.RowKit

theorem suf_tail (t : ByteArray) (n : Nat) (h : n ≤ t.size) : Suf t n (t.extract n t.size) := ⟨h, rfl⟩
theorem lineT_rest (t : ByteArray) (a b : Int) (n k F0 : Nat) (ko : Option Nat) (h : F0 ≤ t.size) :
    lineT a b n (k, ko, restM t F0) = ⟨k, a, b, n, (match ko with | none => 0 | some _ => a + n), (match ko with | none => 0 | some e => a + e), a + (blk t F0 : Int), a + (trm t (blk t F0) (cmtTo t (blk t F0 + look (t.extract (blk t F0) t.size) 0)) : Int),
      if cmtTo t (blk t F0 + look (t.extract (blk t F0) t.size) 0) < t.size then a + (cmtTo t (blk t F0 + look (t.extract (blk t F0) t.size) 0) : Int) else 0, if cmtTo t (blk t F0 + look (t.extract (blk t F0) t.size) 0) < t.size then b else 0⟩ := by
  have hl : look t (blk t F0) = blk t F0 + look (t.extract (blk t F0) t.size) 0 := (suf_tail t (blk t F0) (blk_le t F0 h)).look 0 (Nat.zero_le _)
  unfold restM lineT
  rw [hl]
  by_cases hc : cmtTo t (blk t F0 + look (t.extract (blk t F0) t.size) 0) < t.size
  · simp only [if_pos hc]
    cases ko <;> rfl
  · simp only [if_neg hc]
    cases ko <;> rfl
theorem cmt_far (z : ByteArray) (F0 : Nat) (hF : F0 ≤ z.size) : blk z F0 ≤ cmtTo z (blk z F0 + look (z.extract (blk z F0) z.size) 0) := by
  have h1 := blk_le z F0 hF
  have h2 := (look_bd (z.extract (blk z F0) z.size) 0 (Nat.zero_le _)).2
  have hz : (z.extract (blk z F0) z.size).size = z.size - blk z F0 := by rw [ByteArray.size_extract]; omega
  exact Nat.le_trans (Nat.le_add_right _ _) (cmtTo_ge _ _ (by omega))
theorem key_quote {v : ByteArray} (h : byt v 0 = 34 ∨ byt v 0 = 39) (h0 : 0 < v.size) : (qtd v 0).2.1 = true ∧ (keyM v 0).2 = (qtd v 0).2.2 := by
  have hq2 : (qtd v 0).2.1 = true := by
    unfold qtd
    rw [if_neg (by omega)]
    by_cases h1 : byt v 0 = 34
    · rw [if_pos h1]
    · rw [if_neg h1, if_pos (h.resolve_left h1)]
  refine ⟨hq2, ?_⟩
  unfold keyM
  rw [if_pos hq2]
  split
  · rename_i hc; exact hc.1.symm
  · rfl
theorem key_plain {v : ByteArray} (h : ¬ (byt v 0 = 34 ∨ byt v 0 = 39)) (h0 : 0 < v.size) : (keyM v 0).2 = true := by
  have hq2 : (qtd v 0).2.1 = false := by
    unfold qtd
    rw [if_neg (by omega), if_neg (fun h1 => h (.inl h1)), if_neg (fun h1 => h (.inr h1))]
  unfold keyM
  rw [if_neg (by rw [hq2]; exact Bool.false_ne_true)]
  split <;> rfl
theorem look_pos {v : ByteArray} (h : (qtd v 0).2.2 = true) : look v 0 ≠ 0 := by
  unfold look
  rw [if_pos h]
  have := ((qtd_bd v 0 (Nat.zero_le _)).2.2 h).1
  omega
theorem look_none {v : ByteArray} (h : (qtd v 0).2.2 = false) : look v 0 = 0 := by
  unfold look
  rw [if_neg (by rw [h]; exact Bool.false_ne_true)]

set_option maxHeartbeats 4000000 in
set_option maxRecDepth 1000000 in
theorem rl_fine (s : ByteArray) (a b : Nat) (w : World) (hs : s.size ≤ 1099511627776) (hab : a ≤ b) (hbs : b ≤ s.size)
    (hlf : hasLF (s.extract a b) = false) (hcl : cleanM (s.extract a b) true = (s.extract a b).size) (V : LineR × Int × Int)
    (hV : V = lineF a b (blk (s.extract 0 b) a) (lineD (s.extract 0 b) (blk (s.extract 0 b) a))) :
    Calls Tryd.prog 16 #[.string s, .agg #[.int .i64 (a : Int), .int .i64 (b : Int)]] w (LinePost V w) := by
  have S := suf_cut s a b hab hbs
  have hNs := blk_le (s.extract a b) 0 (Nat.zero_le _)
  have e1 : blk (s.extract 0 b) a = a + blk (s.extract a b) 0 := S.blk 0
  rw [e1, S.lineD _ hNs] at hV
  clear e1 S
  have hlf2 := noLF hlf
  generalize hN : blk (s.extract a b) 0 = N at *
  have S2 := suf_tail (s.extract a b) N hNs
  have hb0 : byt (s.extract a b) N = byt ((s.extract a b).extract N (s.extract a b).size) 0 := S2.byt 0
  have hz2 := S2.size
  have hLD : lineD (s.extract a b) N = if N = (s.extract a b).size then some (1, none, (N, N), none)
      else if byt (s.extract a b) N = 35 then some (2, none, (N, N), some N)
      else if sgn (s.extract a b) N 45 = true then some (3, none, restM (s.extract a b) (N + 1))
      else if (keyM (s.extract a b) N).2 = false then none
      else if N < (keyM (s.extract a b) N).1 then some (4, some (keyM (s.extract a b) N).1, restM (s.extract a b) ((keyM (s.extract a b) N).1 + 1))
      else some (5, none, restM (s.extract a b) N) := rfl
  by_cases hA : N = (s.extract a b).size
  · refine rl_A s a b N V w hs hab hbs hlf2 hcl hN hA ?_
    rw [hV, hLD, if_pos hA]
    exact congrArg (fun x => (x, (b : Int), (0 : Int))) (lineT_is a b N _)
  · rw [if_neg hA] at hLD
    have hlt : N < (s.extract a b).size := by omega
    by_cases hB : byt (s.extract a b) N = 35
    · refine rl_B s a b N V w hs hab hbs hlf2 hcl hN hlt hB ?_
      rw [hV, hLD, if_pos hB]
      exact congrArg (fun x => (x, (b : Int), (0 : Int))) (lineT_is a b N _)
    · rw [if_neg hB] at hLD
      have hkm : keyM (s.extract a b) N = (N + (keyM ((s.extract a b).extract N (s.extract a b).size) 0).1, (keyM ((s.extract a b).extract N (s.extract a b).size) 0).2) := S2.keyM 0 (by omega) (by rw [← hb0]; exact hB)
      have hsg : sgn (s.extract a b) N 45 = sgn ((s.extract a b).extract N (s.extract a b).size) 0 45 := S2.sgn 0 45
      have hQ : (keyM ((s.extract a b).extract N (s.extract a b).size) 0).2 = true → (byt (s.extract a b) N = 34 ∨ byt (s.extract a b) N = 39) → look ((s.extract a b).extract N (s.extract a b).size) 0 ≠ 0 := fun hk hq' => by
        rw [hb0] at hq'
        have := key_quote hq' (by omega)
        exact look_pos (by rw [← this.2]; exact hk)
      have fin : ∀ (k F0 : Nat) (ko : Option Nat), F0 ≤ (s.extract a b).size → lineD (s.extract a b) N = some (k, ko, restM (s.extract a b) F0) → V = (lineT a b N (k, ko, restM (s.extract a b) F0), (b : Int), 0) := fun k F0 ko hF h => by
        rw [hV, h]
        exact congrArg (fun x => (x, (b : Int), (0 : Int))) (lineT_is a b N _)
      have hCF : ∀ F0, F0 ≤ (s.extract a b).size → blk (s.extract a b) F0 ≤ cmtTo (s.extract a b) (blk (s.extract a b) F0 + look ((s.extract a b).extract (blk (s.extract a b) F0) (s.extract a b).size) 0) := cmt_far _
      have hn : ∀ (C : Nat) (z : ByteArray), if C < z.size then (if C < z.size then (a : Int) + (C : Int) else 0) = (a : Int) + (C : Int) ∧ (if C < z.size then (b : Int) else 0) = (b : Int) else (if C < z.size then (a : Int) + (C : Int) else 0) = 0 ∧ (if C < z.size then (b : Int) else 0) = 0 := fun C z => by
        by_cases h : C < z.size
        · simp only [if_pos h]; exact ⟨trivial, trivial⟩
        · simp only [if_neg h]; exact ⟨trivial, trivial⟩
      cases hC : sgn (s.extract a b) N 45 with
      | true =>
        rw [if_pos hC] at hLD
        have hs1 := sgn_is hC
        have hF : N + 1 ≤ (s.extract a b).size := hlt
        have hk : (keyM ((s.extract a b).extract N (s.extract a b).size) 0).2 = true := key_plain (by rw [← hb0]; omega) (by omega)
        refine rl_C s a b N V w hs hab hbs hlf2 hcl hN 0 (N + 1) hlt hB (hQ hk) hk (by unfold headM; rw [if_pos (by rw [← hsg]; exact hC)]) rfl hF _ _ _ _ _ rfl rfl (hCF _ hF) rfl (hn _ _) ?_
        rw [fin 3 (N + 1) none hF hLD, lineT_rest _ _ _ _ _ _ _ hF]
        rfl
      | false =>
        rw [if_neg (by rw [hC]; exact Bool.false_ne_true)] at hLD
        cases hk : (keyM ((s.extract a b).extract N (s.extract a b).size) 0).2 with
        | false =>
          have hkt : (keyM (s.extract a b) N).2 = false := by rw [hkm]; exact hk
          rw [if_pos hkt] at hLD
          have hq' : byt (s.extract a b) N = 34 ∨ byt (s.extract a b) N = 39 := by
            by_cases h : byt (s.extract a b) N = 34 ∨ byt (s.extract a b) N = 39
            · exact h
            · rw [key_plain (by rw [← hb0]; exact h) (by omega)] at hk; cases hk
          refine rl_D s a b N V w hs hab hbs hlf2 hcl hN hlt hq' (look_none ?_) ?_
          · have := key_quote (v := (s.extract a b).extract N (s.extract a b).size) (by rw [← hb0]; exact hq') (by omega)
            rw [← this.2]; exact hk
          · rw [hV, hLD]
            show (lineZ, (((a + N : Nat)) : Int), (2 : Int)) = _
            rw [Int.natCast_add]
        | true =>
          have hkt : (keyM (s.extract a b) N).2 = true := by rw [hkm]; exact hk
          rw [if_neg (by rw [hkt]; exact Bool.noConfusion)] at hLD
          have hkb := keyM_bd (s.extract a b) N hlt
          have hsg0 : ¬ sgn ((s.extract a b).extract N (s.extract a b).size) 0 45 = true := by rw [← hsg, hC]; exact Bool.false_ne_true
          by_cases hE : N < (keyM (s.extract a b) N).1
          · rw [if_pos hE] at hLD
            have hF : (keyM (s.extract a b) N).1 + 1 ≤ (s.extract a b).size := (hkb.2.2 hE).2.1
            have he : (keyM (s.extract a b) N).1 = N + (keyM ((s.extract a b).extract N (s.extract a b).size) 0).1 := congrArg Prod.fst hkm
            rw [he] at hLD hF hE
            refine rl_E s a b N V w hs hab hbs hlf2 hcl hN (keyM ((s.extract a b).extract N (s.extract a b).size) 0).1 (N + (keyM ((s.extract a b).extract N (s.extract a b).size) 0).1 + 1) hlt hB (hQ hk) hk (by unfold headM; rw [if_neg hsg0, if_pos (by omega)]) rfl hF _ _ _ _ _ rfl rfl (hCF _ hF) rfl (hn _ _) ?_
            rw [fin 4 _ _ hF hLD, lineT_rest _ _ _ _ _ _ _ hF]
            simp only [Int.natCast_add, Int.add_assoc]
            rfl
          · rw [if_neg hE] at hLD
            have he : (keyM (s.extract a b) N).1 = N + (keyM ((s.extract a b).extract N (s.extract a b).size) 0).1 := congrArg Prod.fst hkm
            have hF : N ≤ (s.extract a b).size := hNs
            refine rl_F s a b N V w hs hab hbs hlf2 hcl hN 0 N hlt hB (hQ hk) hk (by unfold headM; rw [if_neg hsg0, if_neg (by omega)]) rfl hF _ _ _ _ _ rfl rfl (hCF _ hF) rfl (hn _ _) ?_
            rw [fin 5 N none hF hLD, lineT_rest _ _ _ _ _ _ _ hF]
            rfl
set_option maxHeartbeats 4000000 in
set_option maxRecDepth 1000000 in
theorem rl_out (s : ByteArray) (a b : Int) (w : World) (_hs : s.size ≤ 1099511627776) (h : a < 0 ∨ b < a ∨ (s.size : Int) < b) (V : LineR × Int × Int) (hV : V = (lineZ, 0, 1)) :
    Calls Tryd.prog 16 #[.string s, .agg #[.int .i64 a, .int .i64 b]] w (LinePost V w) := by
  have hBA := (below_alloc w (.cells #[.int .i64 a, .int .i64 b] 23)).alloc (by simp) (.cells zero10 26)
  have hX1 := (Whole.made w 23 #[.int .i64 a, .int .i64 b]).alloc (.cells zero10 26)
  have HBA := hq hBA
  have c0 := hX1.at_ 0
  have c1 := hX1.at_ 1
  clear hBA hX1
  have HN := hq hV
  clear hV
  have key : a < 0 ∨ (¬ a < 0 ∧ b < a) ∨ (¬ a < 0 ∧ ¬ b < a ∧ (s.size : Int) < b) := by omega
  clear h
  rcases key with g1 | ⟨g1, g2⟩ | ⟨g1, g2, g3⟩
  all_goals
    go_enter Tryd.func16, Tryd.ntmps16
    go_wp2_with fail
    refine bodyPost_ret (v := .tuple #[.agg zero10, .int .i64 0, .int .i64 1]) (by simp [results, Tryd.results16, go_sem]) rfl ⟨by rw [HN.o]; rfl, ?_⟩
    exact HBA.o

set_option maxHeartbeats 4000000 in
set_option maxRecDepth 1000000 in
theorem rl_feed (s : ByteArray) (a b : Nat) (w : World) (hs : s.size ≤ 1099511627776) (hab : a ≤ b) (hbs : b ≤ s.size) (o : Nat) (ho : o < (s.extract a b).size) (h10 : byt (s.extract a b) o = 10) (hno : ∀ i, i < o → byt (s.extract a b) i ≠ 10) (V : LineR × Int × Int) (hV : V = (lineZ, 0, 1)) :
    Calls Tryd.prog 16 #[.string s, .agg #[.int .i64 (a : Int), .int .i64 (b : Int)]] w (LinePost V w) := by
  have hBA := (below_alloc w (.cells #[.int .i64 (a : Int), .int .i64 (b : Int)] 23)).alloc (by simp) (.cells zero10 26)
  have hX1 := (Whole.made w 23 #[.int .i64 (a : Int), .int .i64 (b : Int)]).alloc (.cells zero10 26)
  have HBA := hq hBA
  have c0 := hX1.at_ 0
  have c1 := hX1.at_ 1
  clear hBA hX1
  have HN := hq hV
  have H10 := hq h10
  have HNO := hq hno
  have htz1 : (s.extract a b).size ≤ 1099511627776 := by rw [ByteArray.size_extract]; omega
  clear hV h10 hno
  go_enter Tryd.func16, Tryd.ntmps16
  go_wp2_with fail
  generalize s.extract a b = t at *
  go_loop [8] (fun i => ∃ q : Nat, q ≤ o ∧ i = .int .i64 (q : Int)) (fun i => t.size - (intOf i).toNat)
  case atStart => exact ⟨0, Nat.zero_le _, rfl⟩
  case round =>
    obtain ⟨q, hqt, rfl⟩ := hrel
    have h : q < t.size := by omega
    have y0 : ((t[q]'h).toNat : Int) = (byt t q : Int) := by rw [byt_eq t q h]
    by_cases hlt : q < o
    · have e1 : ((byt t q : Int) == 10) = false := beq_int_false (HNO.o q hlt)
      generalize byt t q = x0 at *
      go_wp2_with fail
      go_round
      case rel => exact ⟨q + 1, hlt, int_eq (by omega)⟩
      case measure => simp [intOf]; omega
    · obtain rfl : q = o := by omega
      have e1 : ((byt t q : Int) == 10) = true := beq_int_true H10.o
      clear H10 HNO
      generalize byt t q = x0 at *
      go_wp2_with fail
      refine bodyPost_ret (v := .tuple #[.agg zero10, .int .i64 0, .int .i64 1]) (by simp [results, Tryd.results16, go_sem]) rfl ⟨by rw [HN.o]; rfl, ?_⟩
      exact HBA.o

set_option maxHeartbeats 4000000 in
set_option maxRecDepth 1000000 in
theorem rl_bad (s : ByteArray) (a b : Nat) (w : World) (hs : s.size ≤ 1099511627776) (hab : a ≤ b) (hbs : b ≤ s.size) (hlf : ∀ i, i < (s.extract a b).size → byt (s.extract a b) i ≠ 10) (hcl : cleanM (s.extract a b) true ≠ (s.extract a b).size) (V : LineR × Int × Int) (hV : V = (lineZ, (a : Int) + (cleanM (s.extract a b) true : Int), 2)) :
    Calls Tryd.prog 16 #[.string s, .agg #[.int .i64 (a : Int), .int .i64 (b : Int)]] w (LinePost V w) := by
  have hBA := (below_alloc w (.cells #[.int .i64 (a : Int), .int .i64 (b : Int)] 23)).alloc (by simp) (.cells zero10 26)
  have hX1 := (Whole.made w 23 #[.int .i64 (a : Int), .int .i64 (b : Int)]).alloc (.cells zero10 26)
  have HBA := hq hBA
  have c0 := hX1.at_ 0
  have c1 := hX1.at_ 1
  clear hBA hX1
  have HN := hq hV
  have HLF := hq hlf
  have htz1 : (s.extract a b).size ≤ 1099511627776 := by rw [ByteArray.size_extract]; omega
  have HW := hq (fun W => rwrong_any (s.extract a b) true W htz1)
  have hcl1 : cleanM (s.extract a b) true ≤ (s.extract a b).size := clnM_le _ _ _ _
  have hcl2 : (cleanM (s.extract a b) true : Int) < ((s.extract a b).size : Int) := by omega
  generalize cleanM (s.extract a b) true = cm at *
  clear hV hlf hcl
  go_enter Tryd.func16, Tryd.ntmps16
  go_wp2_with fail
  generalize s.extract a b = t at *
  go_loop [8] (fun i => ∃ q : Nat, q ≤ t.size ∧ i = .int .i64 (q : Int)) (fun i => t.size - (intOf i).toNat)
  case atStart => exact ⟨0, Nat.zero_le _, rfl⟩
  case round =>
    obtain ⟨q, hqt, rfl⟩ := hrel
    by_cases h : q < t.size
    · have y0 : ((t[q]'h).toNat : Int) = (byt t q : Int) := by rw [byt_eq t q h]
      have e1 : ((byt t q : Int) == 10) = false := beq_int_false (HLF.o q h)
      generalize byt t q = x0 at *
      go_wp2_with fail
      go_round
      case rel => exact ⟨q + 1, h, int_eq (by omega)⟩
      case measure => simp [intOf]; omega
    · have h' : ¬ (q : Int) < (t.size : Int) := by omega
      clear HLF
      go_wp2_with fail
      refine (HW.o _).mono ?_
      rintro e w' ⟨rfl, rfl⟩
      go_upto_region 10 with fail
      go_region_with (go_at_call 41; refine (HW.o _).mono ?_; rintro e w' ⟨rfl, rfl⟩)
      all_goals go_wp2_with fail
      all_goals refine bodyPost_ret (v := .tuple #[.agg zero10, .int .i64 ((a : Int) + (cm : Int)), .int .i64 2]) ?_ rfl ⟨by rw [HN.o]; try rfl, ?_⟩
      all_goals first | exact HBA.o.drew | (simp [results, Tryd.results16, go_sem]; exact Go.IntWalk.i64_in _ (by omega))

theorem rline_any (s : ByteArray) (a b : Int) (w : World) (hs : s.size ≤ 1099511627776) :
    Calls Tryd.prog 16 #[.string s, .agg #[.int .i64 a, .int .i64 b]] w (LinePost (lineM s a b) w) := by
  by_cases h : a < 0 ∨ b < a ∨ (s.size : Int) < b
  · exact rl_out s a b w hs h _ (if_pos h)
  · obtain ⟨a, rfl⟩ := Int.eq_ofNat_of_zero_le (show 0 ≤ a by omega)
    obtain ⟨b, rfl⟩ := Int.eq_ofNat_of_zero_le (show 0 ≤ b by omega)
    have e : lineM s (a : Int) (b : Int) = lineN s a b := if_neg h
    rw [e]
    have hab : a ≤ b := by omega
    have hbs : b ≤ s.size := by omega
    cases hG : hasLF (s.extract a b) with
    | true =>
      obtain ⟨o, h1, h2, h3⟩ := isLF hG
      exact rl_feed s a b w hs hab hbs o h1 h2 h3 _ (if_pos hG)
    | false =>
      have e2 : lineN s a b = if ¬ cleanM (s.extract a b) true = (s.extract a b).size then (lineZ, (a : Int) + (cleanM (s.extract a b) true : Int), 2) else lineF a b (blk (s.extract 0 b) a) (lineD (s.extract 0 b) (blk (s.extract 0 b) a)) := if_neg (by rw [hG]; exact Bool.false_ne_true)
      by_cases hcl : cleanM (s.extract a b) true = (s.extract a b).size
      · exact rl_fine s a b w hs hab hbs hG hcl _ (e2.trans (if_neg (fun h => h hcl)))
      · exact rl_bad s a b w hs hab hbs (noLF hG) hcl _ (e2.trans (if_pos hcl))
end Go.Proofs.YtekihjffefokjaaDoor
