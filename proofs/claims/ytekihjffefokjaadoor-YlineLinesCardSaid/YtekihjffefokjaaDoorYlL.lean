/-
  WALKS: yline.Line: all ways.
-/
import Derived.Test.YtekihjffefokjaaDoorYlL2
import Derived.Test.YtekihjffefokjaaDoorYlL3
namespace Go.Proofs.YtekihjffefokjaaDoor
open Go.RowKit

set_option maxHeartbeats 4000000 in
set_option maxRecDepth 1000000 in
theorem yline_any (s : ByteArray) (a b : Int) (w : World) (hT : tabs w) (hs : s.size ≤ 1099511627776) (ha : -9223372036854775808 ≤ a ∧ a ≤ 9223372036854775807) (hb : -9223372036854775808 ≤ b ∧ b ≤ 9223372036854775807) :
    Calls Tryd.prog 15 #[.string s, .agg #[.int .i64 a, .int .i64 b]] w (LinePost (lineM s a b) w) := by
  obtain ⟨ha1, ha2⟩ := ha
  obtain ⟨hb1, hb2⟩ := hb
  have HS : Hq (lineM s a b = if a < 0 ∨ b < a ∨ (s.size : Int) < b then (lineZ, 0, 1) else lineN s a.toNat b.toNat) := hq rfl
  generalize lineM s a b = V at *
  have hBA := (below_alloc w (.cells #[.int .i64 a, .int .i64 b] 23)).alloc (by simp) (.cells zero10 26)
  have hX1 := (Whole.made w 23 #[.int .i64 a, .int .i64 b]).alloc (.cells zero10 26)
  have hX2 := Whole.made (w.alloc (.cells #[.int .i64 a, .int .i64 b] 23)) 26 zero10
  rw [World.size_alloc] at hX2
  have HT0 := hq hT
  have HT := hq (tabs_grow hT hBA)
  have HBA := hq hBA
  have HX1 := hq hX1
  have HX2 := hq hX2
  have hwz : ((w.alloc (.cells #[.int .i64 a, .int .i64 b] 23)).alloc (.cells zero10 26)).heap.size = w.heap.size + 1 + 1 := by simp
  have HWZ := hq hwz
  clear hT hBA hX1 hX2 hwz
  by_cases h0 : a < 0
  · have HN := hq (HS.o.trans (if_pos (.inl h0)))
    clear HS
    go_enter Tryd.func15, Tryd.ntmps15
    go_wp2_with fail
    refine bodyPost_ret (v := .tuple #[.agg zero10, .int .i64 0, .int .i64 1]) (by simp [results, Tryd.results15, go_sem]) rfl ⟨by rw [HN.o]; rfl, ?_⟩
    exact HBA.o
  · obtain ⟨a, rfl⟩ := Int.eq_ofNat_of_zero_le (Int.not_lt.1 h0)
    have h0' : ¬ (a : Int) < 0 := h0
    by_cases h1 : b < (a : Int)
    · have HN := hq (HS.o.trans (if_pos (.inr (.inl h1))))
      clear HS
      go_enter Tryd.func15, Tryd.ntmps15
      go_wp2_with fail
      refine bodyPost_ret (v := .tuple #[.agg zero10, .int .i64 0, .int .i64 1]) (by simp [results, Tryd.results15, go_sem]) rfl ⟨by rw [HN.o]; rfl, ?_⟩
      exact HBA.o
    · obtain ⟨b, rfl⟩ := Int.eq_ofNat_of_zero_le (show 0 ≤ b by omega)
      by_cases h2 : (s.size : Int) < (b : Int)
      · have HN := hq (HS.o.trans (if_pos (.inr (.inr h2))))
        clear HS
        go_enter Tryd.func15, Tryd.ntmps15
        go_wp2_with fail
        refine bodyPost_ret (v := .tuple #[.agg zero10, .int .i64 0, .int .i64 1]) (by simp [results, Tryd.results15, go_sem]) rfl ⟨by rw [HN.o]; rfl, ?_⟩
        exact HBA.o
      · have HL : Hq (V = if hasLF (s.extract a b) = true then (lineZ, 0, 1)
            else if ¬ cleanM (s.extract a b) true = (s.extract a b).size then (lineZ, (a : Int) + (cleanM (s.extract a b) true : Int), 2)
            else lineF a b (blk (s.extract 0 b) a) (lineD (s.extract 0 b) (blk (s.extract 0 b) a))) := hq (HS.o.trans (if_neg (fun h => h.elim h0 (fun h => h.elim h1 h2))))
        clear HS h0
        have h1' : ¬ (b : Int) < (a : Int) := h1
        have hab : a ≤ b := by omega
        have hbs : b ≤ s.size := by omega
        clear h1
        have htz : (s.extract a b).size = b - a := by rw [ByteArray.size_extract]; omega
        have huz : (s.extract 0 b).size = b := by rw [ByteArray.size_extract]; omega
        have HTZ := hq htz
        have HUZ := hq huz
        have HCT := hq (fun W => Tryd.strings_Contains_one (s.extract a b) 10 W)
        have hlf : hasLF (s.extract a b) = decide (0 ≤ Lib.indexByte (s.extract a b).data.toList 10) := rfl
        rw [← hlf] at HCT
        have HCL := hq (fun W (hW : tabs W) => yclean_any (s.extract a b) W hW (by omega))
        clear htz huz hlf
        have hcle : cleanM (s.extract a b) true ≤ b - a := by rw [← HTZ.o]; exact clnM_le _ _ _ _
        have hT0 := HT0.o
        cases hG : hasLF (s.extract a b) with
        | true =>
          have HN := hq (HL.o.trans (if_pos hG))
          rw [hG] at HCT
          clear HL hG HCL
          go_enter Tryd.func15, Tryd.ntmps15
          go_wp2_with fail
          refine (HCT.o _).mono ?_
          rintro e w' ⟨rfl, rfl⟩
          clear HCT
          go_wp2_with fail
          refine bodyPost_ret (v := .tuple #[.agg zero10, .int .i64 0, .int .i64 1]) (by simp [results, Tryd.results15, go_sem]) rfl ⟨by rw [HN.o]; rfl, ?_⟩
          exact HBA.o
        | false =>
          have HL2 := hq (HL.o.trans (if_neg (by rw [hG]; exact Bool.false_ne_true)))
          rw [hG] at HCT
          have hG0 := hG
          clear HL hG
          by_cases hcl : cleanM (s.extract a b) true = (s.extract a b).size
          · have HL3 : Hq (V = lineF a b (blk (s.extract 0 b) a) (lineD (s.extract 0 b) (blk (s.extract 0 b) a))) := hq (HL2.o.trans (if_neg (fun h => h hcl)))
            have hcl0 := hcl
            clear HL2 hcl
            have hT := hT0
            have huz : (s.extract 0 b).size = b := HUZ.o
            have hpl := blk_le (s.extract 0 b) a (by omega)
            have hpg := blk_ge (s.extract 0 b) a
            rw [huz] at hpl
            have HLD : lineD (s.extract 0 b) (blk (s.extract 0 b) a) = if (blk (s.extract 0 b) a) = (s.extract 0 b).size then some (1, none, ((blk (s.extract 0 b) a), (blk (s.extract 0 b) a)), none)
              else if byt (s.extract 0 b) (blk (s.extract 0 b) a) = 35 then some (2, none, ((blk (s.extract 0 b) a), (blk (s.extract 0 b) a)), some (blk (s.extract 0 b) a))
              else if sgn (s.extract 0 b) (blk (s.extract 0 b) a) 45 = true then some (3, none, restM (s.extract 0 b) ((blk (s.extract 0 b) a) + 1))
              else if (keyM (s.extract 0 b) (blk (s.extract 0 b) a)).2 = false then none
              else if (blk (s.extract 0 b) a) < (keyM (s.extract 0 b) (blk (s.extract 0 b) a)).1 then some (4, some (keyM (s.extract 0 b) (blk (s.extract 0 b) a)).1, restM (s.extract 0 b) ((keyM (s.extract 0 b) (blk (s.extract 0 b) a)).1 + 1))
              else some (5, none, restM (s.extract 0 b) (blk (s.extract 0 b) a)) := rfl
            generalize hp : blk (s.extract 0 b) a = p at *
            by_cases hA : p = b
            · exact yl_A s a b p V w hT hs hab hbs hG0 hcl0 hp hpl hpg hA (by rw [HL3.o, HLD, if_pos (by omega)]; rfl)
            · have hlt : p < b := by omega
              rw [if_neg (by omega)] at HLD
              by_cases hB : byt (s.extract 0 b) p = 35
              · exact yl_B s a b p V w hT hs hab hbs hG0 hcl0 hp hpl hpg hlt hB (by rw [HL3.o, HLD, if_pos hB]; rfl)
              · rw [if_neg hB] at HLD
                cases hC : sgn (s.extract 0 b) p 45 with
                | true => exact yl_C s a b p V w hT hs hab hbs hG0 hcl0 hp hpl hpg hlt hB hC (by rw [HL3.o, HLD, if_pos hC]; rfl)
                | false =>
                  rw [if_neg (by rw [hC]; exact Bool.false_ne_true)] at HLD
                  have hkb := keyM_bd (s.extract 0 b) p (by omega)
                  cases hK : keyM (s.extract 0 b) p with
                  | mk e ok =>
                    rw [hK] at HLD hkb
                    cases ok with
                    | false => exact yl_D s a b p V w hT hs hab hbs hG0 hcl0 hp hpl hpg hlt hB hC (by rw [hK]) (by rw [HL3.o, HLD, if_pos rfl]; rfl)
                    | true =>
                      rw [if_neg (fun h => by cases h)] at HLD
                      simp only at hkb HLD
                      by_cases hE : p < e
                      · exact yl_E s a b p V w hT hs hab hbs hG0 hcl0 hp hpl hpg hlt hB hC e hE (by have := (hkb.2.2 hE).2.1; omega) hK (by rw [HL3.o, HLD, if_pos hE]; rfl)
                      · obtain rfl : e = p := by omega
                        exact yl_F s a b e V w hT hs hab hbs hG0 hcl0 hp hpl hpg hlt hB hC hK (by rw [HL3.o, HLD, if_neg hE]; rfl)
          · have HN := hq (HL2.o.trans (if_pos hcl))
            clear hG0 hT0
            rw [decide_eq_false hcl] at HCL
            clear HL2 hcl
            generalize cleanM (s.extract a b) true = cm at *
            go_enter Tryd.func15, Tryd.ntmps15
            go_wp2_with fail
            refine (HCT.o _).mono ?_
            rintro e w' ⟨rfl, rfl⟩
            clear HCT
            go_wp2_with fail
            refine (HCL.o _ HT.o).mono ?_
            rintro e w1 ⟨rfl, hb1⟩
            have hx1 := HX1.o.grow hb1
            have hx2 := HX2.o.grow hb1
            have hB1 := HBA.o.trans (hb1.mono (by rw [HWZ.o]; omega))
            clear hb1 HBA HX1 HX2 HCL HT
            have c0 := hx1.at_ 0
            have c1 := hx1.at_ 1
            have d0 := hx2.at_ 0
            have f0 := hx2.free 0
            have e0 := hx2.at_ 0
            have f0' := hx2.free 0
            have e1 := hx2.at_ 1
            have f1' := hx2.free 1
            have e2 := hx2.at_ 2
            have f2' := hx2.free 2
            have e3 := hx2.at_ 3
            have f3' := hx2.free 3
            have e4 := hx2.at_ 4
            have f4' := hx2.free 4
            have e5 := hx2.at_ 5
            have f5' := hx2.free 5
            have e6 := hx2.at_ 6
            have f6' := hx2.free 6
            have e7 := hx2.at_ 7
            have f7' := hx2.free 7
            have e8 := hx2.at_ 8
            have f8' := hx2.free 8
            have e9 := hx2.at_ 9
            have f9' := hx2.free 9
            go_upto_region 5 with fail
            go_region
            go_wp2_with fail
            refine bodyPost_ret (v := .tuple #[.agg zero10, .int .i64 ((a : Int) + (cm : Int)), .int .i64 2]) ?_ rfl ⟨by rw [HN.o]; try rfl, ?_⟩
            · simp [results, Tryd.results15, go_sem, e0, e1, e2, e3, e4, e5, e6, e7, e8, e9]
            · exact ((((((((((hB1.setCell (by simp) _).setCell (by simp) _).setCell (by simp) _).setCell (by simp) _).setCell (by simp) _).setCell (by simp) _).setCell (by simp) _).setCell (by simp) _).setCell (by simp) _).setCell (by simp) _).drew
end Go.Proofs.YtekihjffefokjaaDoor
