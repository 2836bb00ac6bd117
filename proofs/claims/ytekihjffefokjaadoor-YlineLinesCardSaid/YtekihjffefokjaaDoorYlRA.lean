/-
  WALKS: the document's own answers of layer 10: wrong, Single.
-/
import Derived.Test.YtekihjffefokjaaDoorYlS
import Derived.Test.YtekihjffefokjaaDoorRefGood
namespace Go.Proofs.YtekihjffefokjaaDoor
open Go.RowKit

set_option maxHeartbeats 1000000 in
set_option maxRecDepth 1000000 in
theorem rwrong_any (s : ByteArray) (del : Bool) (w : World) (hs : s.size ≤ 1099511627776) :
    Calls Tryd.prog 41 #[.string s, .bool del] w fun e w' => e = .returned (.int .i64 (cleanM s del : Int)) ∧ w = w' := by
  have HV : Hq (cleanM s del = clnM s del s.size 0) := hq rfl
  generalize cleanM s del = V at *
  cases del
  all_goals
    go_enter Tryd.func41, Tryd.ntmps41
    go_wp2_with fail
  · go_loop [5] (fun v => ∃ q f : Nat, q ≤ s.size ∧ v = .int .i64 (q : Int) ∧ Hq (V = clnM s false f q) ∧ s.size ≤ q + f) (fun v => s.size - (intOf v).toNat)
    case atStart => exact ⟨0, s.size, Nat.zero_le _, rfl, HV, by omega⟩
    case round =>
      obtain ⟨q, f, hq1, rfl, hv, hf⟩ := hrel
      clear HV
      by_cases h : q < s.size
      · obtain ⟨f, rfl⟩ : ∃ g, f = g + 1 := ⟨f - 1, by omega⟩
        have y0 : ((s[q]'h).toNat : Int) = (byt s q : Int) := by rw [byt_eq s q h]
        have HG := hq (fun W => rgood_any s q W (by unfold maxLen; omega) h)
        have HX := hq (fun W => rnext_any s q W (by unfold maxLen; omega) (by omega))
        rw [nxt_in s q h] at HX
        have hwp := wd_pos s q
        have hwl := wd_le s q h
        have HW : Hq (((Utf8.decode s q).2 : Int) = (wd s q : Int)) := hq rfl
        rw [HW.o] at HX
        by_cases hb : bad s q
        · have HN : Hq (V = q) := hq (by rw [hv.o, clnM_bad s false f q h (by unfold badC; rw [decide_eq_true hb]; rfl)])
          rw [decide_eq_false (fun hh => hh hb)] at HG
          clear hv hb HX HW
          generalize byt s q = c0 at *
          go_wp2_with fail
          refine (HG.o _).mono ?_
          rintro e w' ⟨rfl, rfl⟩
          clear HG
          go_wp2_with fail
          go_ret
          exact ⟨by rw [HN.o]; rfl, rfl⟩
        · rw [decide_eq_true hb] at HG
          by_cases h32 : byt s q < 32
          · have HN : Hq (V = q) := hq (by rw [hv.o, clnM_bad s false f q h (by unfold badC; rw [decide_eq_true h32]; simp)])
            have e1 : (byt s q : Int) < 32 := by omega
            clear hv hb HX HW h32
            generalize byt s q = c0 at *
            go_wp2_with fail
            refine (HG.o _).mono ?_
            rintro e w' ⟨rfl, rfl⟩
            clear HG
            go_wp2_with fail
            go_ret
            exact ⟨by rw [HN.o]; rfl, rfl⟩
          · have HN : Hq (V = clnM s false f (q + wd s q)) := hq (by rw [hv.o, clnM_step s false f q h (by unfold badC; rw [decide_eq_false h32, decide_eq_false hb]; rfl)])
            have e1 : ¬ (byt s q : Int) < 32 := by omega
            clear hv hb HW h32
            generalize byt s q = c0 at *
            generalize wd s q = K at *
            go_wp2_with fail
            refine (HG.o _).mono ?_
            rintro e w' ⟨rfl, rfl⟩
            clear HG
            go_wp2_with fail
            refine (HX.o _).mono ?_
            rintro e w' ⟨rfl, rfl⟩
            clear HX
            go_wp2_with fail
            go_round
            case rel => exact ⟨q + K, f, hwl, int_eq (by omega), HN, by omega⟩
            case measure => simp [intOf]; omega
      · have HN : Hq (V = q) := hq (by rw [hv.o, clnM_end s false f q h]; omega)
        have h' : ¬ (q : Int) < (s.size : Int) := by omega
        clear hv h
        go_wp2_with fail
        go_ret
        exact ⟨by rw [HN.o]; rfl, rfl⟩
  · go_loop [5] (fun v => ∃ q f : Nat, q ≤ s.size ∧ v = .int .i64 (q : Int) ∧ Hq (V = clnM s true f q) ∧ s.size ≤ q + f) (fun v => s.size - (intOf v).toNat)
    case atStart => exact ⟨0, s.size, Nat.zero_le _, rfl, HV, by omega⟩
    case round =>
      obtain ⟨q, f, hq1, rfl, hv, hf⟩ := hrel
      clear HV
      by_cases h : q < s.size
      · obtain ⟨f, rfl⟩ : ∃ g, f = g + 1 := ⟨f - 1, by omega⟩
        have y0 : ((s[q]'h).toNat : Int) = (byt s q : Int) := by rw [byt_eq s q h]
        have HG := hq (fun W => rgood_any s q W (by unfold maxLen; omega) h)
        have HX := hq (fun W => rnext_any s q W (by unfold maxLen; omega) (by omega))
        rw [nxt_in s q h] at HX
        have hwp := wd_pos s q
        have hwl := wd_le s q h
        have HW : Hq (((Utf8.decode s q).2 : Int) = (wd s q : Int)) := hq rfl
        rw [HW.o] at HX
        by_cases hb : bad s q
        · have HN : Hq (V = q) := hq (by rw [hv.o, clnM_bad s true f q h (by unfold badC; rw [decide_eq_true hb]; rfl)])
          rw [decide_eq_false (fun hh => hh hb)] at HG
          clear hv hb HX HW
          generalize byt s q = c0 at *
          go_wp2_with fail
          refine (HG.o _).mono ?_
          rintro e w' ⟨rfl, rfl⟩
          clear HG
          go_wp2_with fail
          go_ret
          exact ⟨by rw [HN.o]; rfl, rfl⟩
        · rw [decide_eq_true hb] at HG
          by_cases h32 : byt s q < 32
          · have HN : Hq (V = q) := hq (by rw [hv.o, clnM_bad s true f q h (by unfold badC; rw [decide_eq_true h32]; simp)])
            have e1 : (byt s q : Int) < 32 := by omega
            clear hv hb HX HW h32
            generalize byt s q = c0 at *
            go_wp2_with fail
            refine (HG.o _).mono ?_
            rintro e w' ⟨rfl, rfl⟩
            clear HG
            go_wp2_with fail
            go_ret
            exact ⟨by rw [HN.o]; rfl, rfl⟩
          · have e1 : ¬ (byt s q : Int) < 32 := by omega
            by_cases h127 : byt s q = 127
            · have HN : Hq (V = q) := hq (by rw [hv.o, clnM_bad s true f q h (by unfold badC; rw [h127]; simp)])
              have e2 : ((byt s q : Int) == 127) = true := beq_int_true h127
              clear hv hb HX HW h32 h127
              generalize byt s q = c0 at *
              go_wp2_with fail
              refine (HG.o _).mono ?_
              rintro e w' ⟨rfl, rfl⟩
              clear HG
              go_wp2_with fail
              go_ret
              exact ⟨by rw [HN.o]; rfl, rfl⟩
            · have HN : Hq (V = clnM s true f (q + wd s q)) := hq (by rw [hv.o, clnM_step s true f q h (by unfold badC; rw [decide_eq_false h32, decide_eq_false hb, beq_eq_false_iff_ne.2 h127]; rfl)])
              have e2 : ((byt s q : Int) == 127) = false := beq_int_false h127
              clear hv hb HW h32 h127
              generalize byt s q = c0 at *
              generalize wd s q = K at *
              go_wp2_with fail
              refine (HG.o _).mono ?_
              rintro e w' ⟨rfl, rfl⟩
              clear HG
              go_wp2_with fail
              refine (HX.o _).mono ?_
              rintro e w' ⟨rfl, rfl⟩
              clear HX
              go_wp2_with fail
              go_round
              case rel => exact ⟨q + K, f, hwl, int_eq (by omega), HN, by omega⟩
              case measure => simp [intOf]; omega
      · have HN : Hq (V = q) := hq (by rw [hv.o, clnM_end s true f q h]; omega)
        have h' : ¬ (q : Int) < (s.size : Int) := by omega
        clear hv h
        go_wp2_with fail
        go_ret
        exact ⟨by rw [HN.o]; rfl, rfl⟩

theorem st_sz (l : Bs) : (st l).size = l.length := by show l.toArray.size = _; simp
theorem rune_ext (s : ByteArray) (q : Nat) (h : q < s.size) : s.extract q (q + wd s q) = st (runeAt s q) := by
  have hw := wd_le s q h
  refine ba_ext (Array.ext' ?_)
  rw [ByteArray.data_extract, Array.toList_extract, List.extract_eq_take_drop]
  unfold runeAt st
  simp

set_option maxHeartbeats 2000000 in
set_option maxRecDepth 1000000 in
theorem rsingle_any (s : ByteArray) (a : Int) (w : World) (hs : s.size ≤ 1099511627776) (ha : -9223372036854775808 ≤ a ∧ a ≤ 9223372036854775807) :
    Calls Tryd.prog 19 #[.string s, .int .i64 a] w fun e w' => e = .returned (.tuple #[.string (st (sglM s a).1), .int .i64 ((sglM s a).2.1 : Int), .int .i64 (sglM s a).2.2]) ∧ w = w' := by
  obtain ⟨ha1, ha2⟩ := ha
  have HS : Hq (sglM s a = if a < 0 ∨ (s.size : Int) < a then ([], 0, 2) else if a.toNat = s.size ∨ byt s a.toNat ≠ 39 then ([], a.toNat, 2) else sglGo s s.size (a.toNat + 1) []) := hq rfl
  generalize sglM s a = V at *
  by_cases h0 : a < 0
  · have HN := hq (HS.o.trans (if_pos (.inl h0)))
    clear HS
    go_enter Tryd.func19, Tryd.ntmps19
    go_wp2_with fail
    go_ret3
    exact ⟨by rw [HN.o]; rfl, rfl⟩
  · by_cases h1 : (s.size : Int) < a
    · have HN := hq (HS.o.trans (if_pos (.inr h1)))
      clear HS
      go_enter Tryd.func19, Tryd.ntmps19
      go_wp2_with fail
      go_ret3
      exact ⟨by rw [HN.o]; rfl, rfl⟩
    · obtain ⟨k, rfl⟩ := Int.eq_ofNat_of_zero_le (Int.not_lt.1 h0)
      have HS2 := hq (HS.o.trans (if_neg (fun h => h.elim h0 h1)))
      simp only [Int.toNat_natCast] at HS2
      have h0' : ¬ (k : Int) < 0 := h0
      have h1' : ¬ (s.size : Int) < (k : Int) := h1
      clear HS h0 h1 ha1 ha2
      by_cases hk : k = s.size
      · have HN := hq (HS2.o.trans (if_pos (.inl hk)))
        have e1 : ((k : Int) == (s.size : Int)) = true := beq_int_true hk
        clear HS2 hk
        go_enter Tryd.func19, Tryd.ntmps19
        go_wp2_with fail
        go_ret3
        exact ⟨by rw [HN.o]; rfl, rfl⟩
      · have e1 : ((k : Int) == (s.size : Int)) = false := beq_int_false hk
        have hks : k < s.size := by omega
        have y0 : ((s[k]'hks).toNat : Int) = (byt s k : Int) := by rw [byt_eq s k hks]
        by_cases h39 : byt s k ≠ 39
        · have HN := hq (HS2.o.trans (if_pos (.inr h39)))
          have e2 : ((byt s k : Int) != 39) = true := bne_iff_ne.2 (by omega)
          clear HS2 hk h39
          generalize byt s k = c0 at *
          go_enter Tryd.func19, Tryd.ntmps19
          go_wp2_with fail
          go_ret3
          exact ⟨by rw [HN.o]; rfl, rfl⟩
        · have HN := hq (HS2.o.trans (if_neg (fun h => h.elim hk h39)))
          have e2 : ((byt s k : Int) != 39) = false := by rw [show byt s k = 39 by omega]; rfl
          clear HS2 hk h39
          generalize byt s k = c0 at *
          go_enter Tryd.func19, Tryd.ntmps19
          go_wp2_with fail
          clear y0
          go_loop [7, 8] (fun o i => ∃ (q f : Nat) (acc : Bs), q ≤ s.size ∧ o = .string (st acc) ∧ i = .int .i64 (q : Int) ∧ Hq (V = sglGo s f q acc) ∧ s.size ≤ q + f ∧ acc.length ≤ q) (fun _ i => s.size - (intOf i).toNat)
          case atStart => exact ⟨k + 1, s.size, [], by omega, rfl, int_eq (by omega), HN, by omega, by simp⟩
          case round =>
            obtain ⟨q, f, acc, hq1, rfl, rfl, hv, hf, hal⟩ := hrel
            clear HN
            have hsz := st_sz acc
            have hz1 : (st acc).size + (⟨#[39]⟩ : ByteArray).size ≤ 4398046511104 := by rw [hsz]; show _ + 1 ≤ _; omega
            have HSZ := hq hsz
            clear hsz
            by_cases h : q < s.size
            · obtain ⟨f, rfl⟩ : ∃ g, f = g + 1 := ⟨f - 1, by omega⟩
              have y0 : ((s[q]'h).toNat : Int) = (byt s q : Int) := by rw [byt_eq s q h]
              by_cases h39 : byt s q = 39
              · have e3 : ((byt s q : Int) == 39) = true := beq_int_true h39
                by_cases hl : q + 1 < s.size
                · have y1 : ((s[q + 1]'hl).toNat : Int) = (byt s (q + 1) : Int) := by rw [byt_eq s (q + 1) hl]
                  have hl' : ¬ (s.size : Int) ≤ (q : Int) + 1 := by omega
                  by_cases h2 : byt s (q + 1) = 39
                  · have HN2 : Hq (V = sglGo s f (q + 2) (acc ++ [39])) := hq (hv.o.trans (sglGo_two h h39 hl h2))
                    have e4 : ((byt s (q + 1) : Int) != 39) = false := by rw [h2]; rfl
                    have HCA : Hq (st acc ++ ⟨#[39]⟩ = st (acc ++ [39])) := hq (cat_bytes acc [39])
                    clear hv h39 h2
                    generalize byt s q = c0 at *
                    generalize byt s (q + 1) = c1 at *
                    go_wp2_with fail
                    go_round
                    case rel => exact ⟨q + 2, f, acc ++ [39], by omega, congrArg Value.string HCA.o, int_eq (by omega), HN2, by omega, by simp; omega⟩
                    case measure => simp [intOf]; omega
                  · have HN2 : Hq (V = (acc, q + 1, 0)) := hq (hv.o.trans (sglGo_ok h h39 (fun hh => h2 hh.2)))
                    have e4 : ((byt s (q + 1) : Int) != 39) = true := bne_iff_ne.2 (by omega)
                    clear hv h39 h2
                    generalize byt s q = c0 at *
                    generalize byt s (q + 1) = c1 at *
                    go_wp2_with fail
                    go_ret3
                    exact ⟨by rw [HN2.o]; rfl, rfl⟩
                · have HN2 : Hq (V = (acc, q + 1, 0)) := hq (hv.o.trans (sglGo_ok h h39 (fun hh => hl hh.1)))
                  have hl' : (s.size : Int) ≤ (q : Int) + 1 := by omega
                  clear hv h39 hl
                  generalize byt s q = c0 at *
                  go_wp2_with fail
                  go_ret3
                  exact ⟨by rw [HN2.o]; rfl, rfl⟩
              · have e3 : ((byt s q : Int) == 39) = false := beq_int_false h39
                have HG := hq (fun W => rgood_any s q W (by unfold maxLen; omega) h)
                have HX := hq (fun W => rnext_any s q W (by unfold maxLen; omega) (by omega))
                rw [nxt_in s q h] at HX
                have hwp := wd_pos s q
                have hwl := wd_le s q h
                have HW : Hq (((Utf8.decode s q).2 : Int) = (wd s q : Int)) := hq rfl
                rw [HW.o] at HX
                by_cases hb : bad s q
                · have HN2 : Hq (V = ([], q, 2)) := hq (hv.o.trans (sglGo_bad h h39 (.inl hb)))
                  rw [decide_eq_false (fun hh => hh hb)] at HG
                  clear hv hb HX HW h39
                  generalize byt s q = c0 at *
                  go_wp2_with fail
                  refine (HG.o _).mono ?_
                  rintro e w' ⟨rfl, rfl⟩
                  clear HG
                  go_wp2_with fail
                  go_ret3
                  exact ⟨by rw [HN2.o]; rfl, rfl⟩
                · rw [decide_eq_true hb] at HG
                  by_cases h32 : byt s q < 32
                  · have HN2 : Hq (V = ([], q, 2)) := hq (hv.o.trans (sglGo_bad h h39 (.inr h32)))
                    have e4 : (byt s q : Int) < 32 := by omega
                    clear hv hb HX HW h39 h32
                    generalize byt s q = c0 at *
                    go_wp2_with fail
                    refine (HG.o _).mono ?_
                    rintro e w' ⟨rfl, rfl⟩
                    clear HG
                    go_wp2_with fail
                    go_ret3
                    exact ⟨by rw [HN2.o]; rfl, rfl⟩
                  · have HN2 : Hq (V = sglGo s f (q + wd s q) (acc ++ runeAt s q)) := hq (hv.o.trans (sglGo_rune h h39 (fun hh => hh.elim hb h32)))
                    have e4 : ¬ (byt s q : Int) < 32 := by omega
                    have hre := rune_ext s q h
                    have HCA : Hq (st acc ++ s.extract q (q + wd s q) = st (acc ++ runeAt s q)) := hq (by rw [hre, cat_bytes])
                    have hez : (s.extract q (q + wd s q)).size = wd s q := by rw [ByteArray.size_extract]; omega
                    have hz2 : (st acc).size + (s.extract q (q + wd s q)).size ≤ 4398046511104 := by rw [hez, HSZ.o]; have := wd_le4 s q; omega
                    have HLA : Hq ((acc ++ runeAt s q).length ≤ q + wd s q) := hq (by rw [List.length_append, runeAt_len s q h]; omega)
                    generalize acc ++ runeAt s q = acc2 at *
                    clear hv hb HW h39 h32 hre hez
                    generalize byt s q = c0 at *
                    generalize wd s q = K at *
                    go_wp2_with fail
                    refine (HG.o _).mono ?_
                    rintro e w' ⟨rfl, rfl⟩
                    clear HG
                    go_wp2_with fail
                    refine (HX.o _).mono ?_
                    rintro e w' ⟨rfl, rfl⟩
                    clear HX
                    go_wp2_with fail
                    go_round
                    case rel => exact ⟨q + K, f, acc2, hwl, congrArg Value.string HCA.o, int_eq (by omega), HN2, by omega, HLA.o⟩
                    case measure => simp [intOf]; omega
            · have HN2 : Hq (V = ([], s.size, 2)) := hq (hv.o.trans (sglGo_end h))
              have h' : ¬ (q : Int) < (s.size : Int) := by omega
              clear hv h
              go_wp2_with fail
              go_ret3
              exact ⟨by rw [HN2.o]; rfl, rfl⟩
end Go.Proofs.YtekihjffefokjaaDoor
