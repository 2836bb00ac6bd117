/-
  WALK: the law RulesTexts.
-/
import Derived.Test.YtmadgdafgkleiaaGreatDoorRuP
import Derived.Test.YtmadgdafgkleiaaGreatDoorRuO
namespace Go.Proofs.YtmadgdafgkleiaaGreatDoor
open Go.RowKit
structure SpR (b : Nat) (w0 : World) (o : Option Addr) (n : Nat) (w : World) : Prop where
  bl : Below b w0 w
  rd : n = 0 ∨ ∃ g cur, o = some ⟨g, 0, none⟩ ∧ b ≤ g ∧ Whole w g 33 cur ∧ ∀ j, j < n → j * 2 + 1 < cur.size
theorem RulesOwn.spr {b : Nat} {l : List RU} {o : Option Addr} {c : Nat} {w0 w : World} (h : RulesOwn b l (.slice o l.length c) w) (hb : Below b w0 w) : SpR b w0 o l.length w := by
  refine ⟨hb, ?_⟩
  rcases h.row.2 with ⟨h1, h0⟩ | ⟨g, cap, cur, hv, hg, hh, _⟩
  · exact .inl h0
  · injection hv with ho
    refine .inr ⟨g, cur, ho, hg, hh, fun j hj => ?_⟩
    obtain ⟨_, q2⟩ := ruC_at l j hj
    have hc2 := h.row.cells (g := g) (by rw [ho]; rfl) (j * 2 + 1) _ q2
    rw [Addr.add_lit, Nat.zero_add] at hc2
    have hw : Whole w g 33 cur := hh
    rw [hw.at_] at hc2
    exact (Array.getElem?_eq_some_iff.1 hc2).1
theorem SpR.put {b n g j : Nat} {w0 w : World} {cur : Array Value} (hb : Below b w0 w) (hg : b ≤ g) (hw : Whole w g 33 cur) (hs : ∀ j, j < n → j * 2 + 1 < cur.size) (u : Value) : SpR b w0 (some ⟨g, 0, none⟩) n (w.setCell ⟨g, j * 2 + 1, none⟩ u) :=
  ⟨hb.setCell (p := ⟨g, j * 2 + 1, none⟩) hg u, .inr ⟨g, _, rfl, hg, hw.put (j * 2 + 1) u, fun j hj => by rw [Array.size_setIfInBounds]; exact hs j hj⟩⟩
set_option maxHeartbeats 8000000 in
set_option maxRecDepth 1000000 in
theorem rutexts_law (o : Option Addr) (cap : Nat) (l : List RU) (s : Bs) (W : World) (hT : tabs W) (hM : mx W) (h : RulesOk W o cap l) (_hs : s.length ≤ maxLen) :
    Calls Tryz.prog 3 #[.slice o l.length cap, .string (st s)] W (BackPost W) := by
  have HSM := hq (fun V (hb : Below W.heap.size W V) => rsmall_any V (tabs_grow hT hb) (mx_grow hM hb))
  have HFE := hq (fun V (hb : Below W.heap.size W V) => rufew_any o cap l V (h.grow hb))
  have HP1 := hq (fun (hf : FewL l) V (hb : Below W.heap.size W V) => print_any o cap l V (tabs_grow hT hb) (mx_grow hM hb) (h.grow hb) (few_sht hf))
  have HP2 := hq (fun (hf : FewL l) V (hb : Below W.heap.size W V) => rprint18_any o cap l V (h.grow hb) (few_sht hf))
  have HQ1 := hq (fun (hz : s.length ≤ 4096) V (hb : Below W.heap.size W V) => ruparse_any s V (tabs_grow hT hb) (mx_grow hM hb) (by omega))
  have HQ2 := hq (fun (hz : s.length ≤ 4096) V (_ : Below W.heap.size W V) => rparse18_any s V (by omega))
  have HSH := hq (fun (hz : s.length ≤ 4096) (l' : List RU) (hm : l'.map RU.m = (ruparseM s).1) => (show ShtR l' from parsed_sht (s := s) (n := (ruparseM s).2.1) (e := (ruparseM s).2.2) (by rw [hm]) (by omega)))
  have HSA := hq (fun (lx ly : List RU) (ox oy : Option Addr) (cx cy : Nat) V (hx : RulesOk V ox cx lx) (hy : RulesOk V oy cy ly) (he : lx.map RU.m = ly.map RU.m) => (show Calls Tryz.prog 10 #[.slice ox lx.length cx, .slice oy ly.length cy] V (fun e W' => e = .returned (.bool true) ∧ Below V.heap.size V W') from (rsameR_any ox oy cx cy lx ly V hx hy).mono fun e W' h => by unfold BoolPost at h; rw [decide_eq_true he] at h; exact h))
  have HP : Hq (∀ W', Below W.heap.size W W' → BackPost W (.returned (.bool true)) W') := hq (fun W' h2 => ⟨rfl, h2⟩)
  generalize BackPost W = PP at *
  unfold BoolPost at HSM
  unfold RFewPost at HFE
  unfold PtxPost at HP1 HP2
  unfold RParsePost at HQ1 HQ2
  generalize printM l = PM at *
  obtain ⟨pb, pe⟩ := PM
  generalize ruparseM s = RM at *
  obtain ⟨ML, nn, er⟩ := RM
  simp only at HP1 HP2 HQ1 HQ2 HSH
  have hsz := st_size s
  clear hT hM h
  go_enter Tryz.func3, Tryz.ntmps3
  go_wp2_with fail
  refine (HSM.o W (Below.refl _ _)).mono ?_
  rintro e W1 ⟨rfl, hb1⟩
  have HB1 := hq hb1
  clear hb1 HSM
  go_wp2_with fail
  refine (HFE.o W1 HB1.o).mono ?_
  rintro e W2 ⟨⟨v1, rfl, hv1⟩, rfl⟩
  have HV1 := hq hv1
  clear HFE hv1
  cases v1 with
  | false =>
    have HV := hq (HP.o _ HB1.o)
    clear HP HP1 HP2 HQ1 HQ2 HSH HSA HV1
    go_wp2_with fail
    first | exact HV.o | (go_ret; exact HV.o)
  | true =>
  by_cases hz : 4096 < s.length
  · have hz1 : (4096 : Int) < ((st s).size : Int) := by omega
    have HV := hq (HP.o _ HB1.o)
    clear HP HP1 HP2 HQ1 HQ2 HSH HSA HV1
    go_wp2_with fail
    first | exact HV.o | (go_ret; exact HV.o)
  have hz1 : ¬ (4096 : Int) < ((st s).size : Int) := by omega
  have hz2 : s.length ≤ 4096 := by omega
  have hf := HV1.o rfl
  have HPA := hq (HP1.o hf)
  have HPB := hq (HP2.o hf)
  have HQA := hq (HQ1.o hz2)
  have HQB := hq (HQ2.o hz2)
  have HSHH := hq (HSH.o hz2)
  clear HP1 HP2 HQ1 HQ2 HSH HV1 hf hz hz2
  go_wp2_with fail
  refine (HPA.o _ HB1.o).mono ?_
  rintro e W3 ⟨rfl, hb⟩
  have HB3 := hq (below_trans HB1.o hb)
  clear hb HPA HB1
  go_wp2_with fail
  refine (HPB.o _ HB3.o).mono ?_
  rintro e W4 ⟨rfl, hb⟩
  have HB4 := hq (below_trans HB3.o hb)
  clear hb HPB HB3
  go_wp2_with fail
  refine (HQB.o _ HB4.o).mono ?_
  rintro e W5 ⟨ly, oy, cy, rfl, hy, hym, hb⟩
  have HB5 := hq (below_trans HB4.o hb)
  have HY5 := hq hy
  have HYM := hq hym
  generalize W4.heap.size = by4 at *
  clear hb HQB HB4 hy hym
  go_wp2_with fail
  go_loopw [14, 15, 16, 17, 18, 19] (fun i _ _ _ _ _ wr => ∃ j : Nat, j ≤ 2 ∧ i = .int .i64 (j : Int) ∧ Hq (Below W.heap.size W wr) ∧ Hq (RulesOwn by4 ly (.slice oy ly.length cy) wr)) (fun i _ _ _ _ _ _ => 2 - (intOf i).toNat)
  case atStart => exact ⟨0, by omega, rfl, HB5, HY5⟩
  case round =>
    obtain ⟨j, hj, rfl, hb, hy⟩ := hrel
    clear HB5 HY5
    by_cases hj2 : j < 2
    · have hjz : (j : Int) < 2 := by omega
      go_wp2_with fail
      refine (HQA.o _ hb.o).mono ?_
      rintro e W6 ⟨lx, ox, cx, rfl, hx, hxm, hb6⟩
      have HSX := hq (HSA.o lx ly ox oy cx cy W6 (hx.ok (HSHH.o lx hxm)) ((hy.o.grow hb6).ok (HSHH.o ly HYM.o)) (hxm.trans HYM.o.symm))
      have hok6 := hx.ok (HSHH.o lx hxm)
      have hxl := hok6.le
      have hxc := hok6.cp
      unfold maxLen at hxc
      clear hok6
      have HX6 := hq hx
      have HB6 := hq hb6
      clear hx hxm hb6 HP HSA HSHH HQA
      go_wp2_with fail
      refine HSX.o.mono ?_
      rintro e W7 ⟨rfl, hb7⟩
      have HS7 := hq ((HX6.o.grow hb7).spr (below_trans HB6.o hb7))
      clear hb7 HSX HX6 HB6
      go_wp2_with fail
      go_loopg [19] lx.length (fun gk u w2 => ∃ q : Nat, q + gk ≤ lx.length ∧ lx.length ≤ q + gk ∧ u = .int .i64 (q : Int) ∧ Hq (SpR wr.heap.size wr ox lx.length w2))
      case atStart => exact ⟨0, by omega, by omega, rfl, HS7⟩
      case round =>
        obtain ⟨q, hql, hqr, rfl, hsp⟩ := hrel
        clear HS7
        by_cases hq1 : q < lx.length
        · have hqz : (q : Int) < (lx.length : Int) := by omega
          rcases hsp.o.rd with h0 | ⟨g, cur, rfl, hbg, hw, hcs⟩
          · exact absurd hq1 (by omega)
          · have hlt := hcs q hq1
            have c0 := (hw.at_ (q * 2 + 1)).trans (Array.getElem?_eq_getElem hlt)
            have c1 := hw.free (q * 2 + 1)
            have HSN := hq (SpR.put (j := q) (n := lx.length) hsp.o.bl hbg hw hcs (.string ⟨#[115, 112, 111, 105, 108, 116]⟩))
            generalize cur[q * 2 + 1] = u1 at *
            clear hsp hbg hw hcs hlt
            go_wp2_with fail
            go_roundg (gk - 1)
            case measure => omega
            case rel => exact ⟨q + 1, by omega, by omega, int_eq (by omega), HSN⟩
        · have hqz : ¬ (q : Int) < (lx.length : Int) := by omega
          have HBN := hq (below_trans hb.o hsp.o.bl)
          have HYN := hq (hy.o.grow hsp.o.bl)
          have e1 : ((nn : Int) != (nn : Int)) = false := bne_self_eq_false _
          have e2 : (er != er) = false := bne_self_eq_false _
          clear hsp hb hy hq1
          go_wp2_with fail
          go_roundw
          case rel => exact ⟨j + 1, by omega, int_eq (by omega), HBN, HYN⟩
          case measure => (try simp [intOf]); omega
    · have hjz : ¬ (j : Int) < 2 := by omega
      have HV := hq (HP.o _ hb.o)
      have t1 : ((st pb).toList == (st pb).toList) = true := beq_self_eq_true _
      have t2 : (pe == pe) = true := beq_self_eq_true _
      clear HP HQA HSA HSHH hb hy hj2
      go_wp2_with fail
      first | exact HV.o | (go_ret; exact HV.o)
theorem rutexts_law2 (o : Option Addr) (cap : Nat) (l : List RU) (x : ByteArray) (W : World) (hT : tabs W) (hM : mx W) (h : RulesOk W o cap l) (hs : x.size ≤ maxLen) :
    Calls Tryz.prog 3 #[.slice o l.length cap, .string x] W fun e W' => e = .returned (.bool true) ∧ Below W.heap.size W W' := by
  have h1 := rutexts_law o cap l x.data.toList W hT hM h hs
  rw [st_of] at h1
  exact h1
end Go.Proofs.YtmadgdafgkleiaaGreatDoor

