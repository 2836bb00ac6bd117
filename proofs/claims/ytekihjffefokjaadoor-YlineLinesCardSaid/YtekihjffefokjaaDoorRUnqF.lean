/-
  WALKS: the document's Read, End.
-/
import Derived.Test.YtekihjffefokjaaDoorRUnqE
import Derived.Test.YtekihjffefokjaaDoorUnqEnd
namespace Go.Proofs.YtekihjffefokjaaDoor
open Go.RowKit

/-- what Read answers -/
def readOf (x : Nat × Int × List Nat) : Bs × Nat × Int := if x.2.1 = 0 then (encAll x.2.2, x.1, 0) else ([], x.1, x.2.1)

set_option maxHeartbeats 2000000 in
set_option maxRecDepth 1000000 in
theorem rread_any (s : ByteArray) (a : Nat) (w : World) (hs : s.size ≤ 1099511627776) (ha : a ≤ s.size) :
    Calls Tryd.prog 91 #[.string s, .int .i64 (a : Int)] w (UnqPost (readOf (scanM s a)) w) := by
  by_cases hq0 : a < s.size ∧ byt s a = 34
  · have HM : Hq (readOf (scanM s a) = readOf (scanGo s s.size (a + 1) [])) := hq (by unfold scanM; rw [if_pos hq0])
    obtain ⟨hlt, h34⟩ := hq0
    have y0 : ((s[a]'hlt).toNat : Int) = (byt s a : Int) := by rw [byt_eq s a hlt]
    have e1 : ((byt s a : Int) != 34) = false := by rw [h34]; rfl
    have ea : decide (s.size ≤ a) = false := decide_eq_false (by omega)
    generalize readOf (scanM s a) = R at *
    generalize byt s a = c at *
    clear h34
    go_enter Tryd.func91, Tryd.ntmps91
    go_wp2_with fail
    clear y0 e1
    go_loopw [7, 8] (fun o i wr => ∃ (k f : Nat) (acc : List Nat), k ≤ s.size ∧ o = .string (st (encAll acc)) ∧ i = .int .i64 (k : Int) ∧ Hq (R = readOf (scanGo s f k acc)) ∧ s.size ≤ k + f ∧ (encAll acc).length ≤ 4 * k ∧ Below w.heap.size w wr) (fun _ i _ => (s.size - (intOf i).toNat))
    case atStart => exact ⟨a + 1, s.size, [], by omega, rfl, int_eq (by omega), HM, by omega, Nat.zero_le _, Below.refl _ _⟩
    case round =>
      obtain ⟨k, f, acc, hk, rfl, rfl, hR, hf, hln, hb⟩ := hrel
      clear HM
      have hsz : (st (encAll acc)).size ≤ 4 * k := by rw [st_size]; exact hln
      by_cases hkl : k < s.size
      · have y0 : ((s[k]'hkl).toNat : Int) = (byt s k : Int) := by rw [byt_eq s k hkl]
        obtain ⟨f, rfl⟩ : ∃ g, f = g + 1 := ⟨f - 1, by omega⟩
        have HR2 : Hq (R = readOf (if byt s k = 34 then (k + 1, 0, acc) else match partM s k with | none => (k, 2, acc) | some x => scanGo s f (k + x.2) (acc ++ [x.1]))) := hq (by
          rw [hR.o, scanGo, if_pos hkl]
          by_cases h34 : byt s k = 34
          · rw [if_pos h34, if_pos h34]
          · rw [if_neg h34, if_neg h34]
            cases partM s k <;> rfl)
        clear hR
        by_cases h34 : byt s k = 34
        · have e34 : ((byt s k : Int) == 34) = true := by rw [h34]; rfl
          have HN : Hq (R = (encAll acc, k + 1, 0)) := hq (by rw [HR2.o, if_pos h34]; rfl)
          clear HR2 h34
          generalize byt s k = c at *
          go_wp2_with fail
          go_ret3
          exact ⟨by rw [HN.o]; rfl, hb⟩
        · have e34 : ((byt s k : Int) == 34) = false := beq_eq_false_iff_ne.2 (by omega)
          have HR3 : Hq (R = readOf (match partM s k with | none => (k, 2, acc) | some x => scanGo s f (k + x.2) (acc ++ [x.1]))) := hq (by
            rw [HR2.o, if_neg h34])
          clear HR2 h34
          have HPB := hq (fun r n => @partM_bd s k r n hkl)
          by_cases h92 : byt s k = 92
          · have e92 : ((byt s k : Int) == 92) = true := by rw [h92]; rfl
            have HE := hq (fun W => rescape_any s k W hs hkl h92)
            have hpm : partM s k = escM s k := by unfold partM; rw [if_pos h92]
            rw [hpm] at HR3 HPB
            generalize escM s k = o at *
            clear h92 hpm
            generalize byt s k = c at *
            go_wp2_with fail
            refine (HE.o _).mono ?_
            clear HE
            cases o with
            | none =>
              rintro e w2 ⟨rfl, hb2⟩
              have HN : Hq (R = ([], k, 2)) := hq HR3.o
              have hb3 := below_trans hb hb2
              clear HR3 HPB hb2
              simp only [Option.map_none, Option.getD_none]
              go_wp2_with fail
              go_ret3
              exact ⟨by rw [HN.o]; rfl, hb3⟩
            | some x =>
              obtain ⟨r, n⟩ := x
              rintro e w2 ⟨rfl, hb2⟩
              obtain ⟨p1, p2, p3, p4, _⟩ := HPB.o r n rfl
              have HN : Hq (R = readOf (scanGo s f (k + n) (acc ++ [r]))) := hq HR3.o
              have hb3 := below_trans hb hb2
              have hl := encB_len r
              have hsz2 : (st (encB r)).size ≤ 4 := by rw [st_size]; exact hl
              have hn0 : ((n : Int) == 0) = false := beq_eq_false_iff_ne.2 (by omega)
              have HS := hq (show st (encAll acc) ++ st (encB r) = st (encAll (acc ++ [r])) by rw [cat_bytes, encAll_snoc])
              have hln2 : (encAll (acc ++ [r])).length ≤ 4 * (k + n) := by rw [encAll_snoc, List.length_append]; omega
              clear HR3 HPB hb2
              simp only [Option.map_some, Option.getD_some]
              go_wp2_with fail
              go_roundw
              case rel => exact ⟨k + n, f, acc ++ [r], p4, congrArg Value.string HS.o, int_eq (by omega), HN, by omega, hln2, hb3⟩
              case measure => simp [intOf]; omega
          · have e92 : ((byt s k : Int) == 92) = false := beq_eq_false_iff_ne.2 (by omega)
            have hpm : partM s k = if byt s k < 32 then none else if bad s k then none else some (Utf8.decode s k) := by unfold partM; rw [if_neg h92]
            have HG := hq (fun W => rgood_any s k W (by unfold maxLen; omega) hkl)
            have HX := hq (fun W => rnext_any s (k : Int) W (by unfold maxLen; omega) (by omega))
            have hnt : nxt s k = (((Utf8.decode s k).1 : Int), ((Utf8.decode s k).2 : Int)) := nxt_in s k hkl
            rw [hnt] at HX
            have hwl := wd_le s k hkl
            have hwp := wd_pos s k
            unfold wd at hwl hwp
            have HENC : Hq (¬ bad s k → s.extract k (k + (Utf8.decode s k).2) = st (encB (Utf8.decode s k).1)) := hq (fun h => by
              rw [← enc_dec s k hkl h]
              exact encB_st _ (dec_fine s k h))
            rw [hpm] at HR3
            clear HPB hnt hpm h92
            by_cases hbad : bad s k
            · have HN : Hq (R = ([], k, 2)) := hq (by
                rw [HR3.o]
                by_cases h32 : byt s k < 32
                · rw [if_pos h32]; rfl
                · rw [if_neg h32, if_pos hbad]; rfl)
              have hd : decide (¬ bad s k) = false := decide_eq_false (fun h => h hbad)
              rw [hd] at HG
              clear HR3 HENC hbad hd HX
              generalize byt s k = c at *
              go_wp2_with fail
              refine (HG.o _).mono ?_
              rintro e w2 ⟨rfl, hw2⟩
              obtain rfl := hw2
              clear HG
              by_cases h32 : c < 32
              · go_wp2_with fail
                go_ret3
                exact ⟨by rw [HN.o]; rfl, hb⟩
              · go_wp2_with fail
                go_ret3
                exact ⟨by rw [HN.o]; rfl, hb⟩
            · have hd : decide (¬ bad s k) = true := decide_eq_true hbad
              rw [hd] at HG
              by_cases h32 : byt s k < 32
              · have HN : Hq (R = ([], k, 2)) := hq (by rw [HR3.o, if_pos h32]; rfl)
                clear HR3 HENC hbad hd HX
                generalize byt s k = c at *
                go_wp2_with fail
                refine (HG.o _).mono ?_
                rintro e w2 ⟨rfl, hw2⟩
                obtain rfl := hw2
                clear HG
                go_wp2_with fail
                go_ret3
                exact ⟨by rw [HN.o]; rfl, hb⟩
              · have HN : Hq (R = readOf (scanGo s f (k + (Utf8.decode s k).2) (acc ++ [(Utf8.decode s k).1]))) := hq (by rw [HR3.o, if_neg h32, if_neg hbad])
                have HE2 := hq (HENC.o hbad)
                clear HR3 HENC hbad hd
                generalize byt s k = c at *
                generalize (Utf8.decode s k).1 = C at *
                generalize (Utf8.decode s k).2 = K at *
                have hl := encB_len C
                have hsz2 : (s.extract k (k + K)).size ≤ 4 := by rw [HE2.o, st_size]; exact hl
                have HS := hq (show st (encAll acc) ++ s.extract k (k + K) = st (encAll (acc ++ [C])) by rw [HE2.o, cat_bytes, encAll_snoc])
                have hln2 : (encAll (acc ++ [C])).length ≤ 4 * (k + K) := by rw [encAll_snoc, List.length_append]; omega
                go_wp2_with fail
                refine (HG.o _).mono ?_
                rintro e w2 ⟨rfl, hw2⟩
                obtain rfl := hw2
                clear HG HE2
                go_wp2_with fail
                refine (HX.o _).mono ?_
                rintro e w2 ⟨rfl, hw2⟩
                obtain rfl := hw2
                clear HX
                have hzk : ((k : Int) + (K : Int)).toNat = k + K := by omega
                go_wp2_with fail
                go_roundw
                case rel => exact ⟨k + K, f, acc ++ [C], hwl, congrArg Value.string HS.o, int_eq (by omega), HN, by omega, hln2, hb⟩
                case measure => simp [intOf]; omega
      · obtain rfl : k = s.size := by omega
        have HN : Hq (R = ([], s.size, 2)) := hq (by
          rw [hR.o]
          cases f with
          | zero => rfl
          | succ f => rw [scanGo, if_neg (Nat.lt_irrefl _)]; rfl)
        clear hR
        go_wp2_with fail
        go_ret3
        exact ⟨by rw [HN.o]; rfl, hb⟩
  · have HM : Hq (readOf (scanM s a) = ([], a, 2)) := hq (by unfold scanM; rw [if_neg hq0]; rfl)
    generalize readOf (scanM s a) = R at *
    by_cases hlt : a < s.size
    · have y0 : ((s[a]'hlt).toNat : Int) = (byt s a : Int) := by rw [byt_eq s a hlt]
      have e1 : ((byt s a : Int) != 34) = true := bne_iff_ne.2 (fun h => hq0 ⟨hlt, by omega⟩)
      generalize byt s a = c at *
      clear hq0
      go_enter Tryd.func91, Tryd.ntmps91
      go_wp2_with fail
      go_ret3
      exact ⟨by rw [HM.o]; rfl, Below.refl _ _⟩
    · obtain rfl : a = s.size := by omega
      clear hq0
      go_enter Tryd.func91, Tryd.ntmps91
      go_wp2_with fail
      go_ret3
      exact ⟨by rw [HM.o]; rfl, Below.refl _ _⟩

set_option maxHeartbeats 1000000 in
set_option maxRecDepth 1000000 in
theorem rend_any (s : ByteArray) (a : Int) (w : World) (hs : s.size ≤ 1099511627776) (ha : -9223372036854775808 ≤ a ∧ a ≤ 9223372036854775807) :
    Calls Tryd.prog 72 #[.string s, .int .i64 a] w (ScanPost (endM s a) w) := by
  obtain ⟨ha1, ha2⟩ := ha
  by_cases h0 : a < 0
  · have HN : Hq (endM s a = (0, 2)) := hq (by unfold endM; rw [if_pos (.inl h0)])
    generalize endM s a = R at *
    go_enter Tryd.func72, Tryd.ntmps72
    go_wp2_with fail
    go_ret2
    exact ⟨by rw [HN.o]; rfl, Below.refl _ _⟩
  · by_cases h1 : (s.size : Int) < a
    · have HN : Hq (endM s a = (0, 2)) := hq (by unfold endM; rw [if_pos (.inr h1)])
      generalize endM s a = R at *
      go_enter Tryd.func72, Tryd.ntmps72
      go_wp2_with fail
      go_ret2
      exact ⟨by rw [HN.o]; rfl, Below.refl _ _⟩
    · obtain ⟨k, rfl⟩ := Int.eq_ofNat_of_zero_le (Int.not_lt.1 h0)
      have HN : Hq (endM s k = ((readOf (scanM s k)).2.1, (readOf (scanM s k)).2.2)) := hq (by
        unfold endM readOf; rw [if_neg (by omega)]
        rw [show ((k : Int)).toNat = k by omega]
        by_cases h : (scanM s k).2.1 = 0
        · rw [if_pos h]; simp only [h]
        · rw [if_neg h])
      have hks : k ≤ s.size := by omega
      have HSC := hq (rread_any s k w hs hks)
      generalize endM s k = R at *
      generalize readOf (scanM s k) = x at *
      obtain ⟨x1, x2, x3⟩ := x
      clear h0 h1
      have h0 : ¬ (k : Int) < 0 := by omega
      have h1 : (k : Int) ≤ (s.size : Int) := by omega
      go_enter Tryd.func72, Tryd.ntmps72
      go_wp2_with fail
      refine HSC.o.mono ?_
      rintro e w1 ⟨rfl, hb1⟩
      clear HSC
      go_wp2_with fail
      go_ret2
      exact ⟨by rw [HN.o]; rfl, hb1⟩
end Go.Proofs.YtekihjffefokjaaDoor
