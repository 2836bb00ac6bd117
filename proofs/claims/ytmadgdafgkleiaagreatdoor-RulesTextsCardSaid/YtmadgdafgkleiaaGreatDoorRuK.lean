/-
  WALK: the document's rule of a line (layer 18: one).
-/
import Derived.Test.YtmadgdafgkleiaaGreatDoorRuH
import Derived.Test.YtmadgdafgkleiaaGreatDoorRuI
import Derived.Test.YtmadgdafgkleiaaGreatDoorRuZ
import Derived.Test.YtmadgdafgkleiaaGreatDoorPxV
import Derived.Test.YtmadgdafgkleiaaGreatDoorRlx
import Derived.Deep.RegionWith
import Derived.BigRegion
import Derived.BigQuiet
namespace Go.Proofs.YtmadgdafgkleiaaGreatDoor
open Go.RowKit
set_option maxHeartbeats 4000000 in
set_option maxRecDepth 1000000 in
theorem rone18_any (s : Bs) (W : World) (hs : s.length ≤ 65536) : Calls Tryz.prog 20 #[.string (st s)] W (RulePost (ruleM (s ++ [10])) W) := by
  have hb1 := below_alloc W (.cells #[.slice none 0 0, .string ⟨#[]⟩] 33)
  have HB1 := hq hb1
  have HX1 := hq (Whole.made W 33 #[.slice none 0 0, .string ⟨#[]⟩])
  have hss := st_size s
  have HEN := hq (fun WW => rend_any (st s) 0 WW (by rw [hss]; omega) (by omega))
  have hel := endM_le (st s)
  rw [hss] at hel
  have HUQ := hq (fun (t : Bs) WW (ht : t.length ≤ 65536) => runquote_any (st t) WW (by rw [st_size]; omega))
  have HPP := hq (fun (t : Bs) WW (ht : t.length ≤ 1048576) => rparse7_any t WW ht)
  have HLN := hq (fun (p : SRow) (k : Bs) WW (hp : p.ok WW) (h1 : ShtT p.l) (h2 : k.length ≤ 134217728) => rline18_any p k WW hp h1 h2)
  have HBAD : Hq (∀ o n c y W', ruleM (s ++ [10]) = none → Below W.heap.size W W' → RulePost (ruleM (s ++ [10])) W (.returned (.tuple #[.agg #[.slice o n c, .string y], .bool false])) W') := hq (fun o n c y W' h hb => by rw [h]; exact ⟨⟨o, n, c, y, rfl⟩, hb⟩)
  have HOK : Hq (∀ p k o c W', ruleM (s ++ [10]) = some (p, k) → W'.ownsRow W.heap.size 9 1 (.slice o p.length c) p.length (strV p) → Below W.heap.size W W' → RulePost (ruleM (s ++ [10])) W (.returned (.tuple #[.agg #[.slice o p.length c, .string (st k)], .bool true])) W') := hq (fun p k o c W' h hr hb => by rw [h]; exact ⟨o, c, rfl, hr, hb⟩)
  have HY := hq (@one_yes s)
  have HN := hq (@one_no s)
  unfold OneB ppD keD paD enD at HY HN
  generalize RulePost (ruleM (s ++ [10])) W = PP at *
  generalize ruleM (s ++ [10]) = RM at *
  unfold ScanPost at HEN
  generalize endM (st s) 0 = E at *
  obtain ⟨ep, ee⟩ := E
  simp only at HEN HY HN hel
  have htl : (s.take ep).length ≤ 65536 := by rw [List.length_take]; omega
  have hdl : (s.drop (ep + 1)).length ≤ 65536 := by rw [List.length_drop]; omega
  have HU1 := hq (fun WW => HUQ.o (s.take ep) WW htl)
  have HU2 := hq (fun WW => HUQ.o (s.drop (ep + 1)) WW hdl)
  have hl1 := unquote_len (st (s.take ep))
  have hl2 := unquote_len (st (s.drop (ep + 1)))
  rw [st_size] at hl1 hl2
  have HTK := hq (st_take s ep)
  have hd1 := st_drop s (ep + 1)
  rw [hss] at hd1
  have HDR := hq hd1
  unfold UnqPost at HU1 HU2
  generalize unquoteM (st (s.take ep)) = U1 at *
  generalize unquoteM (st (s.drop (ep + 1))) = U2 at *
  generalize s.take ep = TK at *
  generalize s.drop (ep + 1) = DR at *
  obtain ⟨u1, un, ue⟩ := U1
  obtain ⟨u2, un2, ue2⟩ := U2
  simp only at HU1 HU2 HY HN hl1 hl2
  have HP7 := hq (fun WW => HPP.o u1 WW (by omega))
  have HSH := hq (pparse_sht u1 (by omega))
  unfold PpPost at HP7
  generalize pparseM u1 = P1 at *
  obtain ⟨pp, pe⟩ := P1
  simp only at HP7 HY HN HSH
  have hu2 : u2.length ≤ 134217728 := by omega
  have x0 := HX1.o.at_ 0
  have x1 := HX1.o.at_ 1
  have xf := HX1.o.free
  have HE1 := hq (HEN.o (W.alloc (.cells #[.slice none 0 0, .string ⟨#[]⟩] 33)))
  clear hb1 hd1 HUQ HPP HEN htl hdl hl1 hl2
  go_enter Tryz.func20, Tryz.ntmps20
  go_wp2_with fail
  clear x0 x1 xf
  refine HE1.o.mono ?_
  rintro e W2 ⟨rfl, hb2⟩
  have HB2 := hq (below_trans HB1.o hb2)
  have HX2 := hq (HX1.o.grow hb2)
  clear hb2 HE1 HX1 HB1
  by_cases he : ee ≠ 0
  · have heb : (ee != 0) = true := bne_iff_ne.2 he
    have HR0 : Hq (RM = none) := hq (HN.o (fun h => he h.1))
    have hDk : Whole W2 W.heap.size 33 #[.slice none 0 0, .string ⟨#[]⟩] := HX2.o
    have HV := hq (HBAD.o none 0 0 ⟨#[]⟩ _ HR0.o (below_set2R HB2.o (Nat.le_refl _) (.slice none 0 0) (.string ⟨#[]⟩)))
    have y0 := hDk.at_ 0
    have y1 := hDk.at_ 1
    have yf := hDk.free
    have HZ := hq (And.intro ((whole_set2R hDk (.slice none 0 0) (.string ⟨#[]⟩)).at_ 0) ((whole_set2R hDk (.slice none 0 0) (.string ⟨#[]⟩)).at_ 1))
    unfold set2R at HV HZ
    clear HY HN HOK HBAD HU1 HU2 HP7 HLN he hDk HSH
    go_wp2_with fail
    refine bodyPost_ret (v := .tuple #[.agg #[.slice none 0 0, .string ⟨#[]⟩], .bool false]) ?_ rfl HV.o
    obtain ⟨z0, z1⟩ := HZ.o
    simp [results, Tryz.results20, go_sem, z0, z1]
  have he0 : ee = 0 := Decidable.not_not.1 he
  have heb : (ee != 0) = false := bne_eq_false_iff_eq.2 he0
  by_cases hlt : ep < s.length
  case neg =>
    have hg : (s.length : Int) ≤ (ep : Int) := by omega
    have HR0 : Hq (RM = none) := hq (HN.o (fun h => hlt h.2.1))
    have hDk : Whole W2 W.heap.size 33 #[.slice none 0 0, .string ⟨#[]⟩] := HX2.o
    have HV := hq (HBAD.o none 0 0 ⟨#[]⟩ _ HR0.o (below_set2R HB2.o (Nat.le_refl _) (.slice none 0 0) (.string ⟨#[]⟩)))
    have y0 := hDk.at_ 0
    have y1 := hDk.at_ 1
    have yf := hDk.free
    have HZ := hq (And.intro ((whole_set2R hDk (.slice none 0 0) (.string ⟨#[]⟩)).at_ 0) ((whole_set2R hDk (.slice none 0 0) (.string ⟨#[]⟩)).at_ 1))
    unfold set2R at HV HZ
    clear HY HN HOK HBAD HU1 HU2 HP7 HLN he hDk HSH he0
    go_wp2_with fail
    refine bodyPost_ret (v := .tuple #[.agg #[.slice none 0 0, .string ⟨#[]⟩], .bool false]) ?_ rfl HV.o
    obtain ⟨z0, z1⟩ := HZ.o
    simp [results, Tryz.results20, go_sem, z0, z1]
  have hg : ¬ (s.length : Int) ≤ (ep : Int) := by omega
  have e1 : (st s).extract 0 ep = st TK := HTK.o
  have hepz : (ep : Int) ≤ (s.length : Int) := by omega
  have HY2 := hq (fun h1 h2 h3 => HY.o ⟨he0, hlt, h1, h2, h3⟩)
  have HNO := hq (fun (h : ¬ (ue2 = 0 ∧ pe = 0 ∧ lineM pp u2 = s ++ [10])) => HN.o (fun g => h ⟨g.2.2.1, g.2.2.2.1, g.2.2.2.2⟩))
  clear HY HN he
  go_wp2_with fail
  refine (HU1.o _).mono ?_
  rintro e W3 ⟨rfl, hb3⟩
  have HB3 := hq (below_trans HB2.o hb3)
  have HX3 := hq (HX2.o.grow hb3)
  have e2 : (st s).extract (ep + 1) s.length = st DR := HDR.o
  have hez1 : (ep : Int) + 1 ≤ (s.length : Int) := by omega
  clear hb3 HU1 HX2 HB2 e1
  go_wp2_with fail
  refine (HU2.o _).mono ?_
  rintro e W4 ⟨rfl, hb4⟩
  have HB4 := hq (below_trans HB3.o hb4)
  have HX4 := hq (HX3.o.grow hb4)
  clear hb4 HU2 HX3 HB3 e2
  go_wp2_with fail
  refine (HP7.o _).mono ?_
  rintro e W6 ⟨o, c, rfl, hr6, hb6⟩
  have HB6 := hq (below_trans HB4.o hb6)
  have HX6 := hq (HX4.o.grow hb6)
  have HR6 := hq (row_baseP hr6 HB4.o.size)
  clear hb6 hr6 HP7 HX4 HB4
  have hb7 := below_alloc W6 (.cells #[.slice o pp.length c, .string (st u2)] 33)
  have HB7 := hq (below_trans HB6.o hb7)
  have HX7 := hq (HX6.o.grow hb7)
  have HW7 := hq (Whole.made W6 33 #[.slice o pp.length c, .string (st u2)])
  have HR7 := hq (own_below HR6.o hb7)
  have HWN := hq (show W.heap.size ≠ W6.heap.size from fun e => by have := HX6.o.lt; omega)
  go_upto_region 8 with fail
  generalize W6.alloc (.cells #[.slice o pp.length c, .string (st u2)] 33) = W7 at *
  generalize W6.heap.size = bT at *
  clear hb7 HX6 HR6 HB6
  have t0 : W7.cell? ⟨bT, 0, none⟩ = some (.slice o pp.length c) := HW7.o.at_ 0
  have t1 : W7.cell? ⟨bT, 1, none⟩ = some (.string (st u2)) := HW7.o.at_ 1
  have y0 : W7.cell? ⟨W.heap.size, 0, none⟩ = some (.slice none 0 0) := HX7.o.at_ 0
  have y1 : W7.cell? ⟨W.heap.size, 1, none⟩ = some (.string ⟨#[]⟩) := HX7.o.at_ 1
  have yf := HX7.o.free
  have hbt := HW7.o.lt
  by_cases hue : ue2 = 0
  case neg =>
    have hub : (ue2 == 0) = false := beq_eq_false_iff_ne.2 hue
    have hub2 : decide (ue2 = 0) = false := decide_eq_false hue
    have HR0 : Hq (RM = none) := hq (HNO.o (fun h => hue h.1))
    clear HY2 HNO HOK HLN HSH hue
    have HXS := hq (show Whole (set2R W7 W.heap.size (.slice o pp.length c) (.string (st u2))).drew W.heap.size 33 _ from whole_set2R HX7.o (.slice o pp.length c) (.string (st u2)))
    have HV := hq (HBAD.o o pp.length c (st u2) _ HR0.o (below_set2R HB7.o (Nat.le_refl _) (.slice o pp.length c) (.string (st u2))).drew)
    have HZ := hq (And.intro (HXS.o.at_ 0) (HXS.o.at_ 1))
    unfold set2R at HV HZ
    go_region
    all_goals
      clear HXS HWN HB7 HX7 HR7 HW7 HBAD HR0
      go_wp2_with fail
      refine bodyPost_ret (v := .tuple #[.agg #[.slice o pp.length c, .string (st u2)], .bool false]) ?_ rfl HV.o
      obtain ⟨z0, z1⟩ := HZ.o
      simp [results, Tryz.results20, go_sem, z0, z1]
  have hub : (ue2 == 0) = true := beq_iff_eq.2 hue
  by_cases hpe : pe = 0
  case neg =>
    have hpb : (pe == 0) = false := beq_eq_false_iff_ne.2 hpe
    have hpb2 : decide (pe = 0) = false := decide_eq_false hpe
    have HR0 : Hq (RM = none) := hq (HNO.o (fun h => hpe h.2.1))
    clear HY2 HNO HOK HLN HSH hue
    have HXS := hq (show Whole (set2R W7 W.heap.size (.slice o pp.length c) (.string (st u2))).drew W.heap.size 33 _ from whole_set2R HX7.o (.slice o pp.length c) (.string (st u2)))
    have HV := hq (HBAD.o o pp.length c (st u2) _ HR0.o (below_set2R HB7.o (Nat.le_refl _) (.slice o pp.length c) (.string (st u2))).drew)
    have HZ := hq (And.intro (HXS.o.at_ 0) (HXS.o.at_ 1))
    unfold set2R at HV HZ
    go_region
    all_goals
      clear HXS HWN HB7 HX7 HR7 HW7 HBAD HR0
      go_wp2_with fail
      refine bodyPost_ret (v := .tuple #[.agg #[.slice o pp.length c, .string (st u2)], .bool false]) ?_ rfl HV.o
      obtain ⟨z0, z1⟩ := HZ.o
      simp [results, Tryz.results20, go_sem, z0, z1]
  have hpb : (pe == 0) = true := beq_iff_eq.2 hpe
  have HLC := hq (fun WW (hr : WW.ownsRow W.heap.size 9 1 (.slice o pp.length c) pp.length (strV pp)) => HLN.o ⟨o, c, pp⟩ u2 WW (own_srow hr) HSH.o hu2)
  unfold SRow.v at HLC
  simp only at HLC
  have HA := hq (HLC.o W7.drew HR7.o)
  have HXS := hq (whole_set2R (show Whole W7.drew W.heap.size 33 #[.slice none 0 0, .string ⟨#[]⟩] from HX7.o) (.slice o pp.length c) (.string (st u2)))
  have HRS := hq (own_set2R (show W7.drew.ownsRow W.heap.size 9 1 (.slice o pp.length c) pp.length (strV pp) from HR7.o) (show Whole W7.drew W.heap.size 33 #[.slice none 0 0, .string ⟨#[]⟩] from HX7.o) (.slice o pp.length c) (.string (st u2)))
  have HBS := hq (below_set2R HB7.o.drew (Nat.le_refl _) (.slice o pp.length c) (.string (st u2)))
  have HBB := hq (HLC.o _ HRS.o)
  have HTS : Hq ((set2R W7.drew W.heap.size (.slice o pp.length c) (.string (st u2))).cell? ⟨bT, 0, none⟩ = some (.slice o pp.length c) ∧ (set2R W7.drew W.heap.size (.slice o pp.length c) (.string (st u2))).cell? ⟨bT, 1, none⟩ = some (.string (st u2))) := hq (two_put (two_put ⟨t0, t1⟩ HWN.o 0 _) HWN.o 1 _)
  have HUN := hq (fun W9 (hb9 : Below W7.drew.heap.size W7.drew W9) => (⟨hb9.os, hb9.tape, hb9.output, hb9.size, hb9.block⟩ : Below W7.heap.size W7 W9))
  have HFA := hq (fun W9 (hb9 : Below W7.heap.size W7 W9) => And.intro (below_set2R (below_trans HB7.o hb9) (Nat.le_refl _) (.slice o pp.length c) (.string (st u2))) (And.intro (own_set2R (own_below HR7.o hb9) (HX7.o.grow hb9) (.slice o pp.length c) (.string (st u2))) (whole_set2R (HX7.o.grow hb9) (.slice o pp.length c) (.string (st u2)))))
  have HFB := hq (fun W9 (hb9 : Below (set2R W7.drew W.heap.size (.slice o pp.length c) (.string (st u2))).heap.size (set2R W7.drew W.heap.size (.slice o pp.length c) (.string (st u2))) W9) => And.intro (below_trans HBS.o hb9) (And.intro (own_below HRS.o hb9) (HXS.o.grow hb9)))
  have HFIN : Hq (∀ Wf, Below W.heap.size W Wf → Wf.ownsRow W.heap.size 9 1 (.slice o pp.length c) pp.length (strV pp) → PP (.returned (.tuple #[.agg #[.slice o pp.length c, .string (st u2)], .bool (lineM pp u2 == s ++ [10])])) Wf) := hq (fun Wf hb hr => by
    by_cases hE : lineM pp u2 = s ++ [10]
    · rw [beq_iff_eq.2 hE]; exact HOK.o pp u2 o c Wf (HY2.o hue hpe hE) hr hb
    · rw [beq_eq_false_iff_ne.2 hE]; exact HBAD.o o pp.length c (st u2) Wf (HNO.o (fun h => hE h.2.2)) hb)
  have hcat : st s ++ ⟨#[10]⟩ = st (s ++ [10]) := cat_bytes s [10]
  have hzz : (st s).size + (⟨#[10]⟩ : ByteArray).size ≤ 4398046511104 := by rw [st_size]; show s.length + 1 ≤ _; omega
  have n1 : ¬ 9223372036854775807 < s.length + 1 := by omega
  have n2 : ¬ 9223372036854775807 ≤ s.length := by omega
  clear HLN HLC HY2 HNO HOK HBAD HSH hue hpe
  unfold set2R at HXS HRS HBS HBB HTS HFA HFB
  generalize lineM pp u2 = LM at *
  go_region_held3 (fun w => w.cell? ⟨bT, 0, none⟩ = some (.slice o pp.length c) ∧ w.cell? ⟨bT, 1, none⟩ = some (.string (st u2)))
    (first | exact ⟨t0, t1⟩ | exact HTS.o | exact hT9 | exact two_put (two_put hT9 HWN.o 0 _) HWN.o 1 _)
    ((go_at_call 19; first | (refine HA.o.mono ?_; rintro e' W9 ⟨rfl, hb9⟩; have hT9 : W9.cell? ⟨bT, 0, none⟩ = some (.slice o pp.length c) ∧ W9.cell? ⟨bT, 1, none⟩ = some (.string (st u2)) := ⟨(hb9.cell (cell_blk (show W7.drew.cell? ⟨bT, 0, none⟩ = _ from t0))).trans t0, (hb9.cell (cell_blk (show W7.drew.cell? ⟨bT, 1, none⟩ = _ from t1))).trans t1⟩; have hX9 := HX7.o.grow (HUN.o W9 hb9); have y0' := hX9.at_ 0; have y1' := hX9.at_ 1; have yf' := hX9.free; obtain ⟨hf1, hf2, hf3⟩ := HFA.o W9 (HUN.o W9 hb9)) | (refine HBB.o.mono ?_; rintro e' W9 ⟨rfl, hb9⟩; have hT9 : W9.cell? ⟨bT, 0, none⟩ = some (.slice o pp.length c) ∧ W9.cell? ⟨bT, 1, none⟩ = some (.string (st u2)) := ⟨(hb9.cell (cell_blk HTS.o.1)).trans HTS.o.1, (hb9.cell (cell_blk HTS.o.2)).trans HTS.o.2⟩; obtain ⟨hf1, hf2, hf3⟩ := HFB.o W9 hb9)))
  all_goals
    have HV := hq (HFIN.o _ hf1 hf2)
    have HZ := hq (And.intro (hf3.at_ 0) (hf3.at_ 1))
    clear hf1 hf2 hf3 HFIN HFA HFB HUN HA HBB HXS HRS HBS HTS HB7 HX7 HR7 HW7
    go_wp2_with fail
    refine bodyPost_ret (v := .tuple #[.agg #[.slice o pp.length c, .string (st u2)], .bool (LM == s ++ [10])]) ?_ rfl HV.o
    obtain ⟨z0, z1⟩ := HZ.o
    simp [results, Tryz.results20, go_sem, z0, z1]
end Go.Proofs.YtmadgdafgkleiaaGreatDoor

