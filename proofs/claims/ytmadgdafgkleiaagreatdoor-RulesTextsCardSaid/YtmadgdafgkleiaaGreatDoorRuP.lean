/-
  WALK: the document's Parse of layer 18.
-/
import Derived.Test.YtmadgdafgkleiaaGreatDoorRuK
namespace Go.Proofs.YtmadgdafgkleiaaGreatDoor
open Go.RowKit
theorem idx_none : ∀ {l : Bs}, 10 ∉ l → Lib.indexByte l 10 = -1
  | [], _ => rfl
  | c :: l, h => by
    have h1 : c ≠ 10 := fun e => h (by rw [e]; exact List.mem_cons_self)
    have h2 := idx_none (l := l) (fun e => h (List.mem_cons_of_mem _ e))
    unfold Lib.indexByte
    rw [if_neg (by simpa using h1), h2]
    rfl
theorem line_cut {r : Bs} {k : Nat} (hk : k < r.length) (h10 : r[k] = 10) (hn : ∀ j (hj : j < k), r[j]'(by omega) ≠ 10) : lineEnd r = k + 1 ∧ r.take (k + 1) = r.take k ++ [10] := by
  have ht : r.take (k + 1) = r.take k ++ [10] := by rw [List.take_succ_eq_append_getElem hk, h10]
  refine ⟨?_, ht⟩
  have hr : r = r.take k ++ 10 :: r.drop (k + 1) := by
    have := (List.take_append_drop (k + 1) r).symm
    rw [ht] at this
    simpa using this
  have hm : 10 ∉ r.take k := fun h => by
    obtain ⟨j, hj, e⟩ := List.getElem_of_mem h
    rw [List.length_take] at hj
    rw [List.getElem_take] at e
    exact hn j (by omega) e
  have := lineEnd_at (r.take k) (r.drop (k + 1)) hm
  rw [← hr, List.length_take, Nat.min_eq_left (by omega)] at this
  exact this
theorem line_none {r : Bs} (hn : ∀ j (hj : j < r.length), r[j] ≠ 10) : lineEnd r = 0 := by
  have hm : 10 ∉ r := fun h => by
    obtain ⟨j, hj, e⟩ := List.getElem_of_mem h
    exact hn j hj e
  unfold lineEnd
  rw [idx_none hm]
  rfl
set_option maxHeartbeats 8000000 in
set_option maxRecDepth 1000000 in
theorem rparse18_any (s : Bs) (W : World) (hs : s.length ≤ 65536) : Calls Tryz.prog 8 #[.string (st s)] W (RParsePost (ruparseM s) W) := by
  obtain ⟨i0, hi, hz0, hz1, hz2⟩ := info_parts infoRu
  have HRU := hq (fun (t : Bs) WW (ht : t.length ≤ 65536) => rone18_any t WW ht)
  have HBAD : Hq (∀ (n : Nat) (er : Int) W', ruparseM s = ([], n, er) → Below W.heap.size W W' → RParsePost (ruparseM s) W (.returned (.tuple #[.slice none 0 0, .int .i64 (n : Int), .int .i64 er])) W') := hq (fun n er W' h hb => by rw [h]; exact ⟨[], none, 0, rfl, ⟨World.ownsRow_nil _ _ _ _, fun r hr => by cases hr⟩, rfl, hb⟩)
  have HOK : Hq (∀ (l : List RU) o c W', ruparseM s = (l.map RU.m, l.length, 0) → RulesOwn W.heap.size l (.slice o l.length c) W' → Below W.heap.size W W' → RParsePost (ruparseM s) W (.returned (.tuple #[.slice o l.length c, .int .i64 (l.length : Int), .int .i64 0])) W') := hq (fun l o c W' h hr hb => by rw [h]; exact ⟨l, o, c, rfl, hr, rfl, hb⟩)
  have HG : Hq (ruparseM s = rparseGo (s.length + 1) s []) := hq rfl
  generalize RParsePost (ruparseM s) W = PP at *
  generalize ruparseM s = RM at *
  go_enter Tryz.func8, Tryz.ntmps8
  go_wp2_with fail
  go_loopg [0, 5, 6, 7, 8] (s.length + 1) (fun gk u v _ _ _ wr => ∃ (r : Bs) (l : List RU) (o : Option Addr) (c : Nat), u = .string (st r) ∧ r.length < gk ∧ r.length ≤ 65536 ∧ l.length ≤ 32 ∧ v = .slice o l.length c ∧ Hq (RM = rparseGo gk r (l.map RU.m)) ∧ Hq (RulesOwn W.heap.size l (.slice o l.length c) wr) ∧ Hq (Below W.heap.size W wr))
  case atStart => exact ⟨s, [], none, 0, rfl, Nat.lt_succ_self _, hs, Nat.zero_le _, rfl, HG, hq ⟨World.ownsRow_nil _ _ _ _, fun r hr => by cases hr⟩, hq (Below.refl _ _)⟩
  case round =>
    obtain ⟨r, l, o, c, rfl, hr, hrl, hl32, rfl, hrm, hown, hb⟩ := hrel
    clear HG
    obtain ⟨f, rfl⟩ : ∃ f, gk = f + 1 := ⟨gk - 1, by omega⟩
    have hsz := st_size r
    by_cases hre : r = []
    · have HV := hq (HOK.o l o c wr (by rw [hrm.o, hre, rparseGo_nil, List.length_map]) hown.o hb.o)
      have hg0 : ¬ (0 : Int) < ((st r).size : Int) := by rw [hsz, hre]; simp
      clear HBAD HOK HRU hrm hown hb hre
      go_wp2_with fail
      first | exact HV.o | (go_ret3; exact HV.o)
    have hpos : 0 < r.length := List.length_pos_iff.2 hre
    have hg0 : (0 : Int) < ((st r).size : Int) := by rw [hsz]; omega
    have hg1 : rparseGo (f + 1) r (l.map RU.m) = if l.length = 32 then ([], 32, 3) else match ruleM (r.take (lineEnd r)) with
      | none => ([], l.length, 2)
      | some q => rparseGo f (r.drop (lineEnd r)) (l.map RU.m ++ [q]) := by
      rw [rparseGo, if_neg hre, List.length_map]
      first | done | rfl | (split <;> rfl)
    have HG1 := hq (hrm.o.trans hg1)
    clear hrm hg1 hre
    by_cases hfull : l.length = 32
    · have hfz : ((l.length : Int) == 32) = true := by rw [beq_iff_eq]; omega
      have HV := hq (HBAD.o 32 3 wr (by rw [HG1.o, if_pos hfull]) hb.o)
      have hl : ((l.length : Nat) : Int) = 32 := by omega
      clear HBAD HOK HRU hown hb HG1 hfull
      go_wp2_with fail
      first | exact HV.o | (go_ret3; exact HV.o)
    have hfz : ((l.length : Int) == 32) = false := by rw [beq_eq_false_iff_ne]; omega
    have HG2 := hq (HG1.o.trans (if_neg hfull))
    have HL31 := hq (show l.length < 32 by omega)
    clear HG1 hfull
    go_wp2_with fail
    go_loop [6] (fun u => ∃ k : Nat, k ≤ r.length ∧ u = .int .i64 (k : Int) ∧ Hq (∀ j (hj : j < k) (hl : j < r.length), r[j] ≠ 10)) (fun u => r.length - (intOf u).toNat)
    case atStart => exact ⟨0, Nat.zero_le _, rfl, hq (fun j hj => absurd hj (Nat.not_lt_zero _))⟩
    case round =>
      obtain ⟨k, hkl, rfl, hn⟩ := hrel
      by_cases hk : k < r.length
      · have hks : k < (st r).size := by rw [hsz]; exact hk
        have hkz : (k : Int) < ((st r).size : Int) := by rw [hsz]; omega
        have hbt : (((st r)[k]'hks).toNat : Int) = ((r[k].toNat : Nat) : Int) := rfl
        by_cases h10 : r[k] = 10
        · have e1 : (((r[k].toNat : Nat) : Int) != 10) = false := by rw [h10]; rfl
          obtain ⟨hle, htk⟩ := line_cut hk h10 (fun j hj => hn.o j hj (by omega))
          rw [hle] at HG2
          rw [htk] at HG2
          have htl : (r.take k).length ≤ 65536 := by rw [List.length_take]; omega
          have HRC := hq (HRU.o (r.take k) wr htl)
          have e2 : (st r).extract 0 k = st (r.take k) := st_take r k
          have e3 : (st r).extract (k + 1) r.length = st (r.drop (k + 1)) := by
            have := st_drop r (k + 1)
            rw [st_size] at this
            exact this
          have HE3 := hq e3
          have hdl : (r.drop (k + 1)).length = r.length - (k + 1) := List.length_drop ..
          have hke : ((k : Int) == ((st r).size : Int)) = false := beq_eq_false_iff_ne.2 (by omega)
          have hk1 : (k : Int) + 1 ≤ ((st r).size : Int) := by omega
          unfold RulePost at HRC
          clear HRU hn hle htk htl e3
          generalize r[k].toNat = ck at *
          generalize r.take k = tk at *
          generalize r.drop (k + 1) = dr at *
          cases hrm : ruleM (tk ++ [10]) with
          | none =>
            have HR0 : Hq (RM = ([], l.length, 2)) := hq (by rw [HG2.o, hrm])
            rw [hrm] at HRC
            simp only at HRC
            clear HG2 HOK hrm
            go_wp2_with fail
            refine HRC.o.mono ?_
            rintro e W3 ⟨⟨o', n', c', y', rfl⟩, hb3⟩
            have HV := hq (HBAD.o l.length 2 _ HR0.o (below_trans (below_trans hb.o hb3) (below_alloc W3 (.cells #[.slice o' n' c', .string y'] 33))))
            clear HBAD hb3 HRC hown hb
            go_wp2_with fail
            first | exact HV.o | (go_ret3; exact HV.o)
          | some q =>
            obtain ⟨pp, k'⟩ := q
            have HG3 := hq (show RM = rparseGo f dr (l.map RU.m ++ [(pp, k')]) by rw [HG2.o, hrm])
            rw [hrm] at HRC
            simp only at HRC
            clear HG2 HBAD hrm HOK
            go_wp2_with fail
            refine HRC.o.mono ?_
            rintro e W3 ⟨o', c', rfl, hp3, hb3⟩
            have HB3 := hq (below_trans hb.o hb3)
            have HO3 := hq (hown.o.grow hb3)
            have HP3 := hq (row_baseP hp3 hb.o.size)
            have hb4 := below_alloc W3 (.cells #[.slice o' pp.length c', .string (st k')] 33)
            have HW4 := hq (Whole.made W3 33 #[.slice o' pp.length c', .string (st k')])
            have HB4 := hq (below_trans HB3.o hb4)
            have HO4 := hq (HO3.o.grow hb4)
            have HP4 := hq (own_below HP3.o hb4)
            clear hb3 hp3 HRC hown hb HB3 HO3 HP3 hb4
            go_upto_region 9 with fail
            generalize W3.alloc (.cells #[.slice o' pp.length c', .string (st k')] 33) = W4 at *
            generalize W3.heap.size = bR at *
            have x0 := HW4.o.at_ 0
            have x1 := HW4.o.at_ 1
            have hb5 := below_alloc W4 (.cells #[.slice o' pp.length c', .string (st k')] 33)
            have HB5 := hq (below_trans HB4.o hb5)
            have HO5 := hq (HO4.o.grow hb5)
            have HP5 := hq (own_below HP4.o hb5)
            have hsz5 := (below_trans HB4.o hb5).size
            clear hb5
            go_wp2_with (at_builtin; refine wpList_append_own _ rfl _ _ 22 rfl W.heap.size 33 i0 (.agg #[.slice none 0 0, .string ⟨#[]⟩]) 2 40 Tryz.underlying22 hi hz0 hz1 hz2 rfl (by decide) _ _ _ rfl HO5.o.row ⟨W4.heap.size, 0, none⟩ 1 1 [.slice o' pp.length c', .string (st k')] rfl rfl (cells_of_new _ [.slice o' pp.length c', .string (st k')] _) (by simp [Value.oneCell']) (by unfold maxLen; omega) (by omega) hsz5 ?_)
            intro v' W6 hown6 hgrow6 _
            have hadd := HO5.o.add (r := ⟨⟨o', c', pp⟩, k'⟩) HP5.o hown6 hgrow6
            have hB6 := HB5.o.grown hgrow6 HB5.o.size (fun j ej => (HO5.o.row.lt j ej).1)
            have e4 : (l ++ [(⟨⟨o', c', pp⟩, k'⟩ : RU)]).length = l.length + 1 := by simp
            have e5 : (l ++ [(⟨⟨o', c', pp⟩, k'⟩ : RU)]).map RU.m = l.map RU.m ++ [(pp, k')] := by rw [List.map_append]; rfl
            obtain ⟨o6, c6, rfl⟩ := row_shapeP hown6
            have HADD := hq hadd
            have HB6 := hq hB6
            have HE4 := hq e4
            have HE5 := hq e5
            clear hadd hB6 e4 e5 hown6 hgrow6 HO5 HP5 HB5 HO4 HP4 HB4 HW4 x0 x1
            go_wp2_with fail
            rw [HE3.o]
            go_roundg f
            case measure => omega
            case rel =>
              refine ⟨dr, l ++ [⟨⟨o', c', pp⟩, k'⟩], o6, c6, rfl, by omega, by omega, by have := HE4.o; have := HL31.o; omega, by rw [HE4.o], hq (by rw [HE5.o]; exact HG3.o), hq (by rw [HE4.o]; exact HADD.o), HB6⟩
        · have e1 : (((r[k].toNat : Nat) : Int) != 10) = true := bne_iff_ne.2 (fun e => h10 (UInt8.toNat_inj.1 (by show r[k].toNat = 10; omega)))
          have HN : Hq (∀ j (hj : j < k + 1) (hl : j < r.length), r[j] ≠ 10) := hq (fun j hj hl => by
            by_cases e : j = k
            · subst e; exact h10
            · exact hn.o j (by omega) hl)
          clear HG2 HRU HBAD HOK hown hb hn h10
          generalize r[k].toNat = ck at *
          go_wp2_with fail
          go_round
          case rel => exact ⟨k + 1, hk, int_eq (by omega), HN⟩
          case measure => (try simp [intOf]); omega
      · obtain rfl : k = r.length := by omega
        have hkz : ¬ ((r.length : Nat) : Int) < ((st r).size : Int) := by rw [hsz]; omega
        have hle := line_none (fun j hj => hn.o j hj hj)
        have HR0 : Hq (RM = ([], l.length, 2)) := hq (by rw [HG2.o, hle, List.take_zero, ruleM_nil])
        have htk : r.take r.length = r := List.take_length
        have HRC := hq (HRU.o r wr hrl)
        have e2 : (st r).extract 0 r.length = st r := by
          have := st_take r r.length
          rwa [htk] at this
        have hke : ((r.length : Int) == ((st r).size : Int)) = true := by rw [hsz]; exact beq_self_eq_true _
        have hkz2 : (r.length : Int) ≤ ((st r).size : Int) := by omega
        unfold RulePost at HRC
        clear HG2 HOK HRU hn hle htk
        cases hrm : ruleM (r ++ [10]) with
        | none =>
          rw [hrm] at HRC
          simp only at HRC
          go_wp2_with fail
          refine HRC.o.mono ?_
          rintro e W3 ⟨⟨o', n', c', y', rfl⟩, hb3⟩
          have HV := hq (HBAD.o l.length 2 _ HR0.o (below_trans (below_trans hb.o hb3) (below_alloc W3 (.cells #[.slice o' n' c', .string y'] 33))))
          clear HBAD hb3 HRC hown hb hrm
          go_wp2_with fail
          first | exact HV.o | (go_ret3; exact HV.o)
        | some q =>
          obtain ⟨pp, k'⟩ := q
          rw [hrm] at HRC
          simp only at HRC
          go_wp2_with fail
          refine HRC.o.mono ?_
          rintro e W3 ⟨o', c', rfl, hp3, hb3⟩
          have HV := hq (HBAD.o l.length 2 _ HR0.o (below_trans (below_trans hb.o hb3) (below_alloc W3 (.cells #[.slice o' pp.length c', .string (st k')] 33))))
          clear HBAD hb3 HRC hown hb hrm hp3
          go_wp2_with fail
          first | exact HV.o | (go_ret3; exact HV.o)
end Go.Proofs.YtmadgdafgkleiaaGreatDoor

