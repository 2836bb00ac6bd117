/-
  WALKS: rules.rule.
-/
import Derived.Test.YtmadgdafgkleiaaGreatDoorRuL
import Derived.Test.YtmadgdafgkleiaaGreatDoorTrm
import Derived.Test.YtmadgdafgkleiaaGreatDoorUnv
namespace Go.Proofs.YtmadgdafgkleiaaGreatDoor
open Go.RowKit
def ruleM (s : Bs) : Option (List Bs × Bs) :=
  if (endM (st s) 0).2 ≠ 0 then none
  else if (pparseM (unquoteM (st (s.take (endM (st s) 0).1))).1).2 ≠ 0 then none
  else if (unquoteM (st (trimSL (s.drop (endM (st s) 0).1)))).2.2 ≠ 0 then none
  else if lineM (pparseM (unquoteM (st (s.take (endM (st s) 0).1))).1).1 (unquoteM (st (trimSL (s.drop (endM (st s) 0).1)))).1 = s then some ((pparseM (unquoteM (st (s.take (endM (st s) 0).1))).1).1, (unquoteM (st (trimSL (s.drop (endM (st s) 0).1)))).1) else none
def RulePost (x : Option (List Bs × Bs)) (W : World) (e : Ending) (W' : World) : Prop :=
  match x with
  | none => (∃ o n c y, e = .returned (.tuple #[.agg #[.slice o n c, .string y], .bool false])) ∧ Below W.heap.size W W'
  | some (p, k) => ∃ o c, e = .returned (.tuple #[.agg #[.slice o p.length c, .string (st k)], .bool true]) ∧ W'.ownsRow W.heap.size 9 1 (.slice o p.length c) p.length (strV p) ∧ Below W.heap.size W W'
theorem endM_le (s : ByteArray) : (endM s 0).1 ≤ s.size := by
  unfold endM
  split
  · exact Nat.zero_le _
  · have h : (scanM s (0 : Int).toNat).1 ≤ s.size := by
      unfold scanM
      split
      · exact (scanGo_ok s _ _ _ (fun r hr => by cases hr)).2
      · exact Nat.zero_le _
    exact h
def set2R (w : World) (b : Nat) (u0 u1 : Value) : World := (w.setCell ⟨b, 0, none⟩ u0).setCell ⟨b, 1, none⟩ u1
theorem whole_set2R {w : World} {b : Nat} {T : TypeId} {x y : Value} (h : Whole w b T #[x, y]) (u0 u1 : Value) : Whole (set2R w b u0 u1) b T #[u0, u1] := (h.put 0 u0).put 1 u1
theorem below_set2R {B b : Nat} {a w : World} (h : Below B a w) (hb : B ≤ b) (u0 u1 : Value) : Below B a (set2R w b u0 u1) := (h.setCell (p := ⟨b, 0, none⟩) hb u0).setCell (p := ⟨b, 1, none⟩) hb u1
theorem own_ne {w : World} {B n g : Nat} {v : Value} {xs : List Value} {cs : Array Value} (h : w.ownsRow B 9 1 v n xs) (hw : Whole w g 33 cs) : v.ownBlock ≠ some g := fun e => by
  rcases h.2 with ⟨rfl, _⟩ | ⟨g', cap', cur, rfl, _, hh, _⟩
  · cases e
  · have : g' = g := by simpa [Value.ownBlock] using e
    subst this
    rw [show w.heap[g']? = _ from hw] at hh
    cases hh
theorem own_set2R {w : World} {B n g : Nat} {v : Value} {xs : List Value} {x y : Value} (h : w.ownsRow B 9 1 v n xs) (hw : Whole w g 33 #[x, y]) (u0 u1 : Value) : (set2R w g u0 u1).ownsRow B 9 1 v n xs := by
  have h1 := h.kept (grownBy_setCell' w g u0) (.inr (own_ne h hw))
  have hg : (w.setCell ⟨g, 0, none⟩ u0).grownBy ((w.setCell ⟨g, 0, none⟩ u0).setCell ⟨g, 1, none⟩ u1) (some g) := ⟨rfl, rfl, rfl, by simp [World.setCell], fun k _ hne => Below.heap_setCell _ _ _ _ (fun e => hne (by rw [e]))⟩
  exact h1.kept hg (.inr (own_ne h1 (hw.put 0 u0)))
theorem own_below {w w' : World} {B n : Nat} {v : Value} {xs : List Value} (h : w.ownsRow B 9 1 v n xs) (hb : Below w.heap.size w w') : w'.ownsRow B 9 1 v n xs := h.kept (row := none) ⟨hb.os, hb.tape, hb.output, hb.size, fun k hk _ => hb.block k hk⟩ (Classical.em _)
theorem two_put {w : World} {b g : Nat} {u v : Value} (h : w.cell? ⟨b, 0, none⟩ = some u ∧ w.cell? ⟨b, 1, none⟩ = some v) (hne : g ≠ b) (i : Nat) (x : Value) : (w.setCell ⟨g, i, none⟩ x).cell? ⟨b, 0, none⟩ = some u ∧ (w.setCell ⟨g, i, none⟩ x).cell? ⟨b, 1, none⟩ = some v := by
  have h0 : (⟨g, i, none⟩ : Addr) ≠ ⟨b, 0, none⟩ := fun e => by injection e with e2; exact hne e2
  have h1 : (⟨g, i, none⟩ : Addr) ≠ ⟨b, 1, none⟩ := fun e => by injection e with e2; exact hne e2
  constructor
  · first | rw [World.cell?_setCell_other _ h0] | rw [World.cell?_setCell_other _ _ h0] | rw [World.cell?_setCell_other _ _ _ h0] | rw [World.cell?_setCell_other _ _ _ _ h0]
    exact h.1
  · first | rw [World.cell?_setCell_other _ h1] | rw [World.cell?_setCell_other _ _ h1] | rw [World.cell?_setCell_other _ _ _ h1] | rw [World.cell?_setCell_other _ _ _ _ h1]
    exact h.2
set_option maxHeartbeats 4000000 in
set_option maxRecDepth 1000000 in
theorem rule_any (s : Bs) (W : World) (hT : tabs W) (hM : mx W) (hs : s.length ≤ 33554432) : Calls Tryz.prog 22 #[.string (st s)] W (RulePost (ruleM s) W) := by
  have hb1 := below_alloc W (.cells #[.slice none 0 0, .string ⟨#[]⟩] 33)
  have HB1 := hq hb1
  have HX1 := hq (Whole.made W 33 #[.slice none 0 0, .string ⟨#[]⟩])
  have hss := st_size s
  have HEN := hq (end_any (st s) 0 _ (tabs_grow hT hb1) (by rw [hss]; omega) (by omega))
  have hel := endM_le (st s)
  rw [hss] at hel
  have HUQ := hq (fun (t : Bs) WW (hb : Below W.heap.size W WW) (ht : t.length ≤ 33554432) => unquote_any (st t) WW (tabs_grow hT hb) (by rw [st_size]; omega))
  have HPP := hq (fun (t : Bs) WW (hb : Below W.heap.size W WW) (ht : t.length ≤ 134217728) => pparse_any t WW (tabs_grow hT hb) (mx_grow hM hb) ht)
  have HLN := hq (fun (p : SRow) (k : Bs) WW (hb : Below W.heap.size W WW) (hp : p.ok WW) (h1 : ShtT p.l) (h2 : k.length ≤ 134217728) => line_any p k WW (tabs_grow hT hb) (mx_grow hM hb) hp h1 h2)
  have HBAD : Hq (∀ o n c y W', ruleM s = none → Below W.heap.size W W' → RulePost (ruleM s) W (.returned (.tuple #[.agg #[.slice o n c, .string y], .bool false])) W') := hq (fun o n c y W' h hb => by rw [h]; exact ⟨⟨o, n, c, y, rfl⟩, hb⟩)
  have HOK : Hq (∀ p k o c W', ruleM s = some (p, k) → W'.ownsRow W.heap.size 9 1 (.slice o p.length c) p.length (strV p) → Below W.heap.size W W' → RulePost (ruleM s) W (.returned (.tuple #[.agg #[.slice o p.length c, .string (st k)], .bool true])) W') := hq (fun p k o c W' h hr hb => by rw [h]; exact ⟨o, c, rfl, hr, hb⟩)
  have HD : Hq (ruleM s = if (endM (st s) 0).2 ≠ 0 then none
    else if (pparseM (unquoteM (st (s.take (endM (st s) 0).1))).1).2 ≠ 0 then none
    else if (unquoteM (st (trimSL (s.drop (endM (st s) 0).1)))).2.2 ≠ 0 then none
    else if lineM (pparseM (unquoteM (st (s.take (endM (st s) 0).1))).1).1 (unquoteM (st (trimSL (s.drop (endM (st s) 0).1)))).1 = s then some ((pparseM (unquoteM (st (s.take (endM (st s) 0).1))).1).1, (unquoteM (st (trimSL (s.drop (endM (st s) 0).1)))).1) else none) := hq rfl
  generalize RulePost (ruleM s) W = PP at *
  generalize ruleM s = RM at *
  unfold ScanPost at HEN
  generalize endM (st s) 0 = E at *
  obtain ⟨ep, ee⟩ := E
  simp only at HEN HD hel
  have x0 := HX1.o.at_ 0
  have x1 := HX1.o.at_ 1
  have xf := HX1.o.free
  have HTK := hq (st_take s ep)
  have hd1 := st_drop s ep
  rw [hss] at hd1
  have HDR := hq hd1
  clear hT hM hb1 hd1
  go_enter Tryz.func22, Tryz.ntmps22
  go_wp2_with fail
  clear x0 x1 xf
  refine HEN.o.mono ?_
  rintro e W2 ⟨rfl, hb2⟩
  have HB2 := hq (below_trans HB1.o hb2)
  have HX2 := hq (HX1.o.grow hb2)
  have HWL := hq HX1.o.lt
  clear hb2 HEN HX1 HB1
  by_cases he : ee ≠ 0
  · have heb : (ee != 0) = true := bne_iff_ne.2 he
    have HR0 : Hq (RM = none) := hq (by rw [HD.o, if_pos he])
    have hDk : Whole W2 W.heap.size 33 #[.slice none 0 0, .string ⟨#[]⟩] := HX2.o
    have HV := hq (HBAD.o none 0 0 ⟨#[]⟩ _ HR0.o (below_set2R HB2.o (Nat.le_refl _) (.slice none 0 0) (.string ⟨#[]⟩)))
    have y0 := hDk.at_ 0
    have y1 := hDk.at_ 1
    have yf := hDk.free
    have HZ := hq (And.intro ((whole_set2R hDk (.slice none 0 0) (.string ⟨#[]⟩)).at_ 0) ((whole_set2R hDk (.slice none 0 0) (.string ⟨#[]⟩)).at_ 1))
    unfold set2R at HV HZ
    clear HD HOK HBAD HUQ HPP HLN he hDk
    go_wp2_with fail
    refine bodyPost_ret (v := .tuple #[.agg #[.slice none 0 0, .string ⟨#[]⟩], .bool false]) ?_ rfl HV.o
    obtain ⟨z0, z1⟩ := HZ.o
    simp [results, Tryz.results22, go_sem, z0, z1]
  · have heb : (ee != 0) = false := bne_eq_false_iff_eq.2 (Decidable.not_not.1 he)
    have HD2 := hq (HD.o.trans (if_neg he))
    have htl : (s.take ep).length ≤ 33554432 := by rw [List.length_take]; omega
    have hul := unquote_len (st (s.take ep))
    rw [st_size] at hul
    have HU := hq (HUQ.o (s.take ep) W2 HB2.o htl)
    have e1 : (st s).extract 0 ep = st (s.take ep) := HTK.o
    have hepz : (ep : Int) ≤ (s.length : Int) := by omega
    unfold UnqPost at HU
    clear HD he HTK
    generalize unquoteM (st (s.take ep)) = U1 at *
    obtain ⟨u1, un, ue⟩ := U1
    simp only at HU HD2 hul
    go_wp2_with fail
    refine HU.o.mono ?_
    rintro e W3 ⟨rfl, hb3⟩
    have HB3 := hq (below_trans HB2.o hb3)
    have HX3 := hq (HX2.o.grow hb3)
    have hu1 : u1.length ≤ 134217728 := by omega
    have HP := hq (HPP.o u1 W3 HB3.o hu1)
    have HSH := hq (pparse_sht u1 hu1)
    unfold PpPost at HP
    clear hb3 HU HX2 HB2 HPP e1 hul htl
    generalize pparseM u1 = P1 at *
    obtain ⟨pp, pe⟩ := P1
    simp only at HP HD2 HSH
    go_wp2_with fail
    refine HP.o.mono ?_
    rintro e W4 ⟨o, c, rfl, hr4, hb4⟩
    have HB4 := hq (below_trans HB3.o hb4)
    have HX4 := hq (HX3.o.grow hb4)
    have HR4 := hq (row_baseP hr4 HB3.o.size)
    clear hb4 hr4 HP HX3 HB3
    by_cases hpe : pe ≠ 0
    · have hpb : (pe != 0) = true := bne_iff_ne.2 hpe
      have HR0 : Hq (RM = none) := hq (by rw [HD2.o, if_pos hpe])
      have hDk : Whole W4 W.heap.size 33 #[.slice none 0 0, .string ⟨#[]⟩] := HX4.o
      have HV := hq (HBAD.o none 0 0 ⟨#[]⟩ _ HR0.o (below_set2R HB4.o (Nat.le_refl _) (.slice none 0 0) (.string ⟨#[]⟩)))
      have y0 := hDk.at_ 0
      have y1 := hDk.at_ 1
      have yf := hDk.free
      have HZ := hq (And.intro ((whole_set2R hDk (.slice none 0 0) (.string ⟨#[]⟩)).at_ 0) ((whole_set2R hDk (.slice none 0 0) (.string ⟨#[]⟩)).at_ 1))
      unfold set2R at HV HZ
      clear HD2 HOK HBAD HUQ HLN hpe hDk HR4
      go_wp2_with fail
      refine bodyPost_ret (v := .tuple #[.agg #[.slice none 0 0, .string ⟨#[]⟩], .bool false]) ?_ rfl HV.o
      obtain ⟨z0, z1⟩ := HZ.o
      simp [results, Tryz.results22, go_sem, z0, z1]
    · have hpb : (pe != 0) = false := bne_eq_false_iff_eq.2 (Decidable.not_not.1 hpe)
      have HD3 := hq (HD2.o.trans (if_neg hpe))
      have e2 : (st s).extract ep s.length = st (s.drop ep) := HDR.o
      have hdl : (s.drop ep).length ≤ 33554432 := by rw [List.length_drop]; omega
      have HTR := hq (trimSL_any (s.drop ep) W4 (by omega))
      have htl : (trimSL (s.drop ep)).length ≤ 33554432 := by
        unfold trimSL
        have h1 := trimLs_len (trimRs (s.drop ep))
        have h2 := trimRs_len (s.drop ep)
        omega
      clear HD2 hpe HDR
      generalize trimSL (s.drop ep) = ts at *
      go_wp2_with fail
      refine HTR.o.mono ?_
      rintro e W5 ⟨rfl, hb5⟩
      have HB5 := hq (below_trans HB4.o hb5)
      have HX5 := hq (HX4.o.grow hb5)
      have HR5 := hq (HR4.o.kept (row := none) ⟨hb5.os, hb5.tape, hb5.output, hb5.size, fun k hk _ => hb5.block k hk⟩ (Classical.em _))
      have HU := hq (HUQ.o ts W5 HB5.o htl)
      have hul := unquote_len (st ts)
      rw [st_size] at hul
      unfold UnqPost at HU
      clear hb5 HTR HB4 HX4 HR4 HUQ e2 hdl
      generalize unquoteM (st ts) = U2 at *
      obtain ⟨u2, un2, ue2⟩ := U2
      simp only at HU HD3 hul
      go_wp2_with fail
      refine HU.o.mono ?_
      rintro e W6 ⟨rfl, hb6⟩
      have HB6 := hq (below_trans HB5.o hb6)
      have HX6 := hq (HX5.o.grow hb6)
      have HR6 := hq (HR5.o.kept (row := none) ⟨hb6.os, hb6.tape, hb6.output, hb6.size, fun k hk _ => hb6.block k hk⟩ (Classical.em _))
      clear hb6 HU HB5 HX5 HR5
      by_cases hue : ue2 ≠ 0
      · have hub : (ue2 != 0) = true := bne_iff_ne.2 hue
        have HR0 : Hq (RM = none) := hq (by rw [HD3.o, if_pos hue])
        have hDk : Whole W6 W.heap.size 33 #[.slice none 0 0, .string ⟨#[]⟩] := HX6.o
        have HV := hq (HBAD.o none 0 0 ⟨#[]⟩ _ HR0.o (below_set2R HB6.o (Nat.le_refl _) (.slice none 0 0) (.string ⟨#[]⟩)))
        have y0 := hDk.at_ 0
        have y1 := hDk.at_ 1
        have yf := hDk.free
        have HZ := hq (And.intro ((whole_set2R hDk (.slice none 0 0) (.string ⟨#[]⟩)).at_ 0) ((whole_set2R hDk (.slice none 0 0) (.string ⟨#[]⟩)).at_ 1))
        unfold set2R at HV HZ
        clear HD3 HOK HBAD HLN hue hDk HR6
        go_wp2_with fail
        refine bodyPost_ret (v := .tuple #[.agg #[.slice none 0 0, .string ⟨#[]⟩], .bool false]) ?_ rfl HV.o
        obtain ⟨z0, z1⟩ := HZ.o
        simp [results, Tryz.results22, go_sem, z0, z1]
      · have hub : (ue2 != 0) = false := bne_eq_false_iff_eq.2 (Decidable.not_not.1 hue)
        have HD4 := hq (HD3.o.trans (if_neg hue))
        clear HD3 hue
        have hb7 := below_alloc W6 (.cells #[.slice o pp.length c, .string (st u2)] 33)
        have HB7 := hq (below_trans HB6.o hb7)
        have HX7 := hq (HX6.o.grow hb7)
        have HW7 := hq (Whole.made W6 33 #[.slice o pp.length c, .string (st u2)])
        have HR7 := hq (HR6.o.kept (row := none) ⟨hb7.os, hb7.tape, hb7.output, hb7.size, fun k hk _ => hb7.block k hk⟩ (Classical.em _))
        have HWN := hq (show W.heap.size ≠ W6.heap.size from fun e => by have := HX6.o.lt; omega)
        go_upto_region 12 with fail
        generalize W6.alloc (.cells #[.slice o pp.length c, .string (st u2)] 33) = W7 at *
        generalize W6.heap.size = bT at *
        clear hb7 HX6 HR6
        have HLC := hq (fun WW (hb : Below W.heap.size W WW) (hr : WW.ownsRow W.heap.size 9 1 (.slice o pp.length c) pp.length (strV pp)) => HLN.o ⟨o, c, pp⟩ u2 WW hb (own_srow hr) HSH.o (by omega))
        unfold SRow.v at HLC
        simp only at HLC
        have t0 : W7.cell? ⟨bT, 0, none⟩ = some (.slice o pp.length c) := HW7.o.at_ 0
        have t1 : W7.cell? ⟨bT, 1, none⟩ = some (.string (st u2)) := HW7.o.at_ 1
        have y0 : W7.cell? ⟨W.heap.size, 0, none⟩ = some (.slice none 0 0) := HX7.o.at_ 0
        have y1 : W7.cell? ⟨W.heap.size, 1, none⟩ = some (.string ⟨#[]⟩) := HX7.o.at_ 1
        have yf := HX7.o.free
        have hbt := HW7.o.lt
        -- the two ways: the line ahead of the store, or behind it
        have HA := hq (HLC.o W7.drew HB7.o.drew HR7.o)
        have HXS := hq (whole_set2R (show Whole W7.drew W.heap.size 33 #[.slice none 0 0, .string ⟨#[]⟩] from HX7.o) (.slice o pp.length c) (.string (st u2)))
        have HRS := hq (own_set2R (show W7.drew.ownsRow W.heap.size 9 1 (.slice o pp.length c) pp.length (strV pp) from HR7.o) (show Whole W7.drew W.heap.size 33 #[.slice none 0 0, .string ⟨#[]⟩] from HX7.o) (.slice o pp.length c) (.string (st u2)))
        have HBS := hq (below_set2R HB7.o.drew (Nat.le_refl _) (.slice o pp.length c) (.string (st u2)))
        have HBB := hq (HLC.o _ HBS.o HRS.o)
        have HTS : Hq ((set2R W7.drew W.heap.size (.slice o pp.length c) (.string (st u2))).cell? ⟨bT, 0, none⟩ = some (.slice o pp.length c) ∧ (set2R W7.drew W.heap.size (.slice o pp.length c) (.string (st u2))).cell? ⟨bT, 1, none⟩ = some (.string (st u2))) := hq (two_put (two_put ⟨t0, t1⟩ HWN.o 0 _) HWN.o 1 _)
        have HUN := hq (fun W9 (hb9 : Below W7.drew.heap.size W7.drew W9) => (⟨hb9.os, hb9.tape, hb9.output, hb9.size, hb9.block⟩ : Below W7.heap.size W7 W9))
        have HFA := hq (fun W9 (hb9 : Below W7.heap.size W7 W9) => And.intro (below_set2R (below_trans HB7.o hb9) (Nat.le_refl _) (.slice o pp.length c) (.string (st u2))) (And.intro (own_set2R (own_below HR7.o hb9) (HX7.o.grow hb9) (.slice o pp.length c) (.string (st u2))) (whole_set2R (HX7.o.grow hb9) (.slice o pp.length c) (.string (st u2)))))
        have HFB := hq (fun W9 (hb9 : Below (set2R W7.drew W.heap.size (.slice o pp.length c) (.string (st u2))).heap.size (set2R W7.drew W.heap.size (.slice o pp.length c) (.string (st u2))) W9) => And.intro (below_trans HBS.o hb9) (And.intro (own_below HRS.o hb9) (HXS.o.grow hb9)))
        have HFIN : Hq (∀ Wf, Below W.heap.size W Wf → Wf.ownsRow W.heap.size 9 1 (.slice o pp.length c) pp.length (strV pp) → PP (.returned (.tuple #[.agg #[.slice o pp.length c, .string (st u2)], .bool (lineM pp u2 == s)])) Wf) := hq (fun Wf hb hr => by
          by_cases hE : lineM pp u2 = s
          · rw [beq_iff_eq.2 hE]; exact HOK.o pp u2 o c Wf (by rw [HD4.o, if_pos hE]) hr hb
          · rw [beq_eq_false_iff_ne.2 hE]; exact HBAD.o o pp.length c (st u2) Wf (by rw [HD4.o, if_neg hE]) hb)
        clear HLN HLC HD4 HOK HBAD HSH
        unfold set2R at HXS HRS HBS HBB HTS HFA HFB
        generalize lineM pp u2 = LM at *
        go_region_held3 (fun w => w.cell? ⟨bT, 0, none⟩ = some (.slice o pp.length c) ∧ w.cell? ⟨bT, 1, none⟩ = some (.string (st u2)))
          (first | exact ⟨t0, t1⟩ | exact HTS.o | exact hT9 | exact two_put (two_put hT9 HWN.o 0 _) HWN.o 1 _)
          ((go_at_call 16; first | (refine HA.o.mono ?_; rintro e' W9 ⟨rfl, hb9⟩; have hT9 : W9.cell? ⟨bT, 0, none⟩ = some (.slice o pp.length c) ∧ W9.cell? ⟨bT, 1, none⟩ = some (.string (st u2)) := ⟨(hb9.cell (cell_blk (show W7.drew.cell? ⟨bT, 0, none⟩ = _ from t0))).trans t0, (hb9.cell (cell_blk (show W7.drew.cell? ⟨bT, 1, none⟩ = _ from t1))).trans t1⟩; have hX9 := HX7.o.grow (HUN.o W9 hb9); have y0' := hX9.at_ 0; have y1' := hX9.at_ 1; have yf' := hX9.free; obtain ⟨hf1, hf2, hf3⟩ := HFA.o W9 (HUN.o W9 hb9)) | (refine HBB.o.mono ?_; rintro e' W9 ⟨rfl, hb9⟩; have hT9 : W9.cell? ⟨bT, 0, none⟩ = some (.slice o pp.length c) ∧ W9.cell? ⟨bT, 1, none⟩ = some (.string (st u2)) := ⟨(hb9.cell (cell_blk HTS.o.1)).trans HTS.o.1, (hb9.cell (cell_blk HTS.o.2)).trans HTS.o.2⟩; obtain ⟨hf1, hf2, hf3⟩ := HFB.o W9 hb9)))
        all_goals
          have HV := hq (HFIN.o _ hf1 hf2)
          have HZ := hq (And.intro (hf3.at_ 0) (hf3.at_ 1))
          clear hf1 hf2 hf3 HFIN HFA HFB HUN HA HBB HXS HRS HBS HTS HB7 HX7 HR7 HW7
          go_wp2_with fail
          refine bodyPost_ret (v := .tuple #[.agg #[.slice o pp.length c, .string (st u2)], .bool (LM == s)]) ?_ rfl HV.o
          obtain ⟨z0, z1⟩ := HZ.o
          simp [results, Tryz.results22, go_sem, z0, z1]
end Go.Proofs.YtmadgdafgkleiaaGreatDoor

