/-
  WALK: the law RulesTells.
-/
import Derived.Test.YtmadgdafgkleiaaDoorRuE
import Derived.Test.YtmadgdafgkleiaaDoorRuS
import Derived.Test.YtmadgdafgkleiaaDoorRuG
import Derived.Test.YtmadgdafgkleiaaDoorRuO
namespace Go.Proofs.YtmadgdafgkleiaaDoor
open Go.RowKit
set_option maxHeartbeats 8000000 in
set_option maxRecDepth 1000000 in
theorem rutells_law (o : Option Addr) (cap : Nat) (l : List RU) (o1 : Option Addr) (cp1 : Nat) (l1 : List Bs) (o2 : Option Addr) (cp2 : Nat) (l2 : List Bs) (W : World) (hT : tabs W) (hM : mx W) (h : RulesOk W o cap l)
    (lc1 : l1.length ≤ cp1) (mc1 : cp1 ≤ maxLen) (in1 : StrsIn W o1 l1) (ln1 : ∀ x ∈ l1, x.length ≤ maxLen) (lc2 : l2.length ≤ cp2) (mc2 : cp2 ≤ maxLen) (in2 : StrsIn W o2 l2) (ln2 : ∀ x ∈ l2, x.length ≤ maxLen) :
    Calls Tryd.prog 3 #[.slice o l.length cap, .slice o1 l1.length cp1, .slice o2 l2.length cp2] W (BoolPost true W) := by
  have hp1 : SRow.ok W ⟨o1, cp1, l1⟩ := ⟨lc1, mc1, in1⟩
  have hp2 : SRow.ok W ⟨o2, cp2, l2⟩ := ⟨lc2, mc2, in2⟩
  have HSM := hq (fun V (hb : Below W.heap.size W V) => rsmall_any V (tabs_grow hT hb) (mx_grow hM hb))
  have HFE := hq (fun V (hb : Below W.heap.size W V) => rufew_any o cap l V (h.grow hb))
  have HS1 := hq (fun V (hb : Below W.heap.size W V) => short_any o1 cp1 l1 V lc1 mc1 (hp1.grow hb).rd ln1)
  have HS2 := hq (fun V (hb : Below W.heap.size W V) => short_any o2 cp2 l2 V lc2 mc2 (hp2.grow hb).rd ln2)
  have HF1 := hq (fun V (hb : Below W.heap.size W V) => find_any o cap l ⟨o2, cp2, l2⟩ V (h.grow hb) (hp2.grow hb))
  have HF2 := hq (fun V (hb : Below W.heap.size W V) => rfind18_any o cap l ⟨o2, cp2, l2⟩ V (h.grow hb) (hp2.grow hb))
  have HR1 := hq (fun V (hb : Below W.heap.size W V) => rulright_any o cap l V (tabs_grow hT hb) (h.grow hb))
  have HR2 := hq (fun V (hb : Below W.heap.size W V) => rright18_any o cap l V (h.grow hb))
  have HM1 := hq (fun V (hb : Below W.heap.size W V) => match_any ⟨o1, cp1, l1⟩ ⟨o2, cp2, l2⟩ V (hp1.grow hb) (hp2.grow hb))
  have HM2 := hq (fun V (hb : Below W.heap.size W V) => rmatch_any ⟨o1, cp1, l1⟩ ⟨o2, cp2, l2⟩ V (hp1.grow hb) (hp2.grow hb))
  have HP : Hq (∀ W', Below W.heap.size W W' → BoolPost true W (.returned (.bool true)) W') := hq (fun W' h => ⟨rfl, h⟩)
  generalize BoolPost true W = PP at *
  unfold SRow.v at HF1 HF2 HM1 HM2
  unfold FindPost at HF1 HF2
  unfold MatchPost at HM1 HM2
  unfold BoolPost at HSM HR1 HR2
  unfold RFewPost at HFE
  unfold ShortPost at HS1 HS2
  simp only at HF1 HF2 HM1 HM2
  generalize findM l l2 = FM at *
  obtain ⟨fk, fb⟩ := FM
  generalize rgoodB l = RG at *
  generalize matchM l1 l2 = MM at *
  simp only at HF1 HF2
  clear hT hM h hp1 hp2 in1 in2 ln1 ln2 lc1 mc1 lc2 mc2
  have t1 : (RG == RG) = true := beq_self_eq_true _
  have t2 : (MM == MM) = true := beq_self_eq_true _
  have t3 : ((st fk).toList == (st fk).toList) = true := beq_self_eq_true _
  have t4 : (fb == fb) = true := beq_self_eq_true _
  go_enter Tryd.func3, Tryd.ntmps3
  go_wp2_with fail
  refine (HSM.o W (Below.refl _ _)).mono ?_
  rintro e W1 ⟨rfl, hb1⟩
  have HB1 := hq hb1
  clear hb1 HSM
  go_wp2_with fail
  refine (HFE.o W1 HB1.o).mono ?_
  rintro e W2 ⟨⟨v1, rfl, hv1⟩, rfl⟩
  clear HFE hv1
  cases v1 with
  | false =>
    have HV := hq (HP.o _ HB1.o)
    clear HP HS1 HS2 HF1 HF2 HR1 HR2 HM1 HM2
    go_wp2_with fail
    first | exact HV.o | (go_ret; exact HV.o)
  | true =>
  go_wp2_with fail
  refine (HS1.o _ HB1.o).mono ?_
  rintro e W2 ⟨⟨v2, rfl, hv2⟩, rfl⟩
  clear HS1 hv2
  cases v2 with
  | false =>
    have HV := hq (HP.o _ HB1.o)
    clear HP HS2 HF1 HF2 HR1 HR2 HM1 HM2
    go_wp2_with fail
    first | exact HV.o | (go_ret; exact HV.o)
  | true =>
  go_wp2_with fail
  refine (HS2.o _ HB1.o).mono ?_
  rintro e W2 ⟨⟨v3, rfl, hv3⟩, rfl⟩
  clear HS2 hv3
  cases v3 with
  | false =>
    have HV := hq (HP.o _ HB1.o)
    clear HP HF1 HF2 HR1 HR2 HM1 HM2
    go_wp2_with fail
    first | exact HV.o | (go_ret; exact HV.o)
  | true =>
  go_wp2_with fail
  refine (HF1.o _ HB1.o).mono ?_
  rintro e W3 ⟨rfl, hb⟩
  have HB3 := hq (below_trans HB1.o hb)
  clear hb HF1
  go_wp2_with fail
  refine (HF2.o _ HB3.o).mono ?_
  rintro e W4 ⟨rfl, hb⟩
  have HB4 := hq (below_trans HB3.o hb)
  clear hb HF2
  go_wp2_with fail
  refine (HR1.o _ HB4.o).mono ?_
  rintro e W5 ⟨rfl, hb⟩
  have HB5 := hq (below_trans HB4.o hb)
  clear hb HR1
  go_wp2_with fail
  refine (HR2.o _ HB5.o).mono ?_
  rintro e W6 ⟨rfl, hb⟩
  have HB6 := hq (below_trans HB5.o hb)
  clear hb HR2
  go_wp2_with fail
  refine (HM1.o _ HB6.o).mono ?_
  rintro e W7 ⟨rfl, hb⟩
  have HB7 := hq (below_trans HB6.o hb)
  clear hb HM1
  go_wp2_with fail
  refine (HM2.o _ HB7.o).mono ?_
  rintro e W8 ⟨rfl, hb⟩
  have HV := hq (HP.o _ (below_trans HB7.o hb))
  clear hb HM2 HP
  go_wp2_with fail
  first | exact HV.o | (go_ret; exact HV.o)
end Go.Proofs.YtmadgdafgkleiaaDoor

