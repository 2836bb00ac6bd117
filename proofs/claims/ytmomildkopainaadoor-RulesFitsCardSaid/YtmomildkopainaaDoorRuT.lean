/-
  WALKS: THE LAW RulesFits.
-/
import Derived.Test.YtmomildkopainaaDoorRuS
import Derived.Laws.AppendOwnNone
namespace Go.Proofs.YtmomildkopainaaDoor
open Go.RowKit

theorem row_noneR (w : World) (e : TypeId) (size : Nat) : (w.alloc (.cells #[] e)).ownsRow w.heap.size e size (.slice (some ⟨w.heap.size, 0, none⟩) 0 0) 0 [] :=
  ⟨by simp, .inr ⟨w.heap.size, 0, #[], rfl, Nat.le_refl _, heap_alloc_new w _, Nat.le_refl _, Nat.zero_le _, by simp, by simp⟩⟩
theorem row_oneR (w : World) (x : Bs) : (w.alloc (.cells #[.string (st x)] 9)).ownsRow w.heap.size 9 1 (.slice (some ⟨w.heap.size, 0, none⟩) 1 1) 1 (strV [x]) :=
  ⟨by simp [strV], .inr ⟨w.heap.size, 1, #[.string (st x)], rfl, Nat.le_refl _, heap_alloc_new w _, Nat.le_refl _, by unfold maxLen; omega, by simp, by simp [strV]⟩⟩
theorem strV_cells {w : World} {o : Option Addr} {l : List Bs} (h : StrsIn w o l) : ∀ ad, o = some ad → ∀ j u, (strV l)[j]? = some u → w.cell? (ad.add j) = some u := by
  intro ad ho j u hu
  have hj : j < l.length := by
    have := (List.getElem?_eq_some_iff.1 hu).1
    unfold strV at this
    rwa [List.length_map] at this
  obtain ⟨b, f, hb, hp⟩ := h j hj
  rw [ho] at hb
  obtain rfl := Option.some.inj hb
  rw [Go.WideShapes.add_plain, hp]
  unfold strV at hu
  rw [List.getElem?_map, List.getElem?_eq_getElem hj] at hu
  exact hu
theorem app_row {w : World} {ops : Array Oper} {rest : List Oper} {o : Oper} {a : Act} {Q : Exit → Act → World → Prop} (hgd : Region.wanted o (yielded ops a.tmps) = true) (s x : Operand)
    (ho : o.op = .call { callee := .builtin .append, args := #[s, x], argTypes := #[33, 33] })
    (B : Nat) (hB : B ≤ w.heap.size) (v : Value) (L : List Bs) (n : Nat) (hs : a.eval s = v) (hn : L.length = n) (hown : w.ownsRow B 9 1 v n (strV L)) (r : SRow) (m : Nat) (hm : r.l.length = m) (hx : a.eval x = .slice r.o m r.cap) (hr : r.ok w) (hc : r.o = none → r.cap = 0)
    (M : List Bs) (hM : L ++ r.l = M) (h63 : n + m ≤ 1000)
    (h : ∀ o' c' w', w'.ownsRow B 9 1 (.slice o' M.length c') M.length (strV M) → Below B w w' → wpList Tryd.prog ops Q rest (a.put o.dst (.slice o' M.length c')) w') : wpList Tryd.prog ops Q (o :: rest) a w := by
  obtain ⟨i0, hi, hz0, hz1, hz2⟩ := info_parts infoStr
  subst hn hm
  have hlen : L.length + r.l.length = M.length := by rw [← hM, List.length_append]
  have hV : strV L ++ strV r.l = strV M := by rw [← hM]; unfold strV; rw [List.map_append]
  have h1 : ∀ u ∈ strV r.l, u.oneCell' = true := fun u hu => by
    unfold strV at hu
    obtain ⟨y, _, rfl⟩ := List.mem_map.1 hu
    rfl
  refine wpList_step fun K hK => ?_
  rw [if_pos hgd]
  have fin : ∀ v' w', w'.ownsRow B 9 1 v' (L.length + r.l.length) (strV L ++ strV r.l) → w.grownBy w' v.ownBlock → K (a.put o.dst v') w' := fun v' w' h2 h3 => by
    rw [hlen, hV] at h2
    obtain ⟨o', c', rfl⟩ := row_shapeP h2
    exact hK _ _ (h o' c' w' h2 ((Below.refl _ _).grown h3 hB (fun k e => (hown.lt k e).1)))
  cases ho2 : r.o with
  | none =>
    have h0 := hc ho2
    have hl0 : r.l.length = 0 := by have := hr.le; omega
    have hnil : r.l = [] := List.eq_nil_of_length_eq_zero hl0
    rw [ho2, h0, hl0] at hx
    have hrun := run_append_owned_none (P := Tryd.prog) (w := w) B 33 o.type 9 i0 1 Tryd.underlying33 hi v L.length (strV L) hown
    have hf := fin v w (by
      rw [hnil]
      show w.ownsRow B 9 1 v L.length (strV L ++ [])
      rw [List.append_nil]
      exact hown) ⟨rfl, rfl, rfl, Nat.le_refl _, fun _ _ _ => rfl⟩
    unfold Oper.wp
    simp [execOp, ho, resolve, invoke, builtin, hs, hx, hrun, Result.andThen]
    exact hf
  | some ad =>
    rw [ho2] at hx
    have hcap := hr.cp
    exact wp_append_own w s x _ ho B 9 i0 (.string ⟨#[]⟩) 1 16 Tryd.underlying33 hi hz0 hz1 hz2 rfl (by decide) v L.length (strV L) hs hown ad r.l.length r.cap (strV r.l) hx (by unfold strV; rw [List.length_map, Nat.mul_one]) (strV_cells hr.rd ad ho2) h1 (by unfold maxLen; omega) (by omega) hB (fun v' w' h2 h3 _ => fin v' w' h2 h3)
def LawPost (W : World) (e : Ending) (W' : World) : Prop := e = .returned (.bool true) ∧ Below W.heap.size W W'
def plainB (p : List Bs) : Bool := p.all fun x => !(x == [42]) && !(x == [42, 42])
theorem plainB_take {l : List Bs} {i : Nat} (hi : i < l.length) : plainB (l.take (i + 1)) = (plainB (l.take i) && (!(l[i] == [42]) && !(l[i] == [42, 42]))) := all_take _ hi
theorem plainB_glob {p : List Bs} (h : plainB p = true) (l : List Bs) : Glob p l ↔ p = l := Glob.plain l fun x hx => by
  have := List.all_eq_true.1 h x hx
  simp only [Bool.and_eq_true, Bool.not_eq_true', beq_eq_false_iff_ne] at this
  exact this
theorem match_is (v : Bool) (p r : SRow) (hv : matchM p.l r.l = v) (W : World) (hp : p.ok W) (hr : r.ok W) : Calls Tryd.prog 19 #[.slice p.o p.l.length p.cap, .slice r.o r.l.length r.cap] W fun e W' => e = .returned (.bool v) ∧ Below W.heap.size W W' := by
  have h := match_any p r W hp hr
  unfold MatchPost at h
  rw [hv] at h
  exact h
theorem match_of (v : Bool) (o : Option Addr) (n c : Nat) (l : List Bs) (o' : Option Addr) (n' c' : Nat) (l' : List Bs) (hn : l.length = n) (hn' : l'.length = n') (hv : matchM l l' = v) (W : World) (hp : (⟨o, c, l⟩ : SRow).ok W) (hr : (⟨o', c', l'⟩ : SRow).ok W) : Calls Tryd.prog 19 #[.slice o n c, .slice o' n' c'] W fun e W' => e = .returned (.bool v) ∧ Below W.heap.size W W' := by
  subst hn hn'
  exact match_is v ⟨o, c, l⟩ ⟨o', c', l'⟩ hv W hp hr
set_option maxHeartbeats 8000000 in
set_option maxRecDepth 1000000 in
theorem fits_law (a b p q : SRow) (W : World) (hT : tabs W) (hM : mx W) (ha : a.ok W) (hb : b.ok W) (hp : p.ok W) (hq' : q.ok W) (ra : Room a.l) (rb : Room b.l) (rp : Room p.l) (rq : Room q.l)
    (na : a.o = none → a.cap = 0) (nb : b.o = none → b.cap = 0) (np : p.o = none → p.cap = 0) (nq : q.o = none → q.cap = 0) :
    Calls Tryd.prog 6 #[a.v, b.v, p.v, q.v] W (LawPost W) := by
  obtain ⟨ao, ac, al⟩ := a
  obtain ⟨bo, bc, bl⟩ := b
  obtain ⟨po, pc, pl⟩ := p
  obtain ⟨qo, qc, ql⟩ := q
  have HA := hq ha
  have HB := hq hb
  have HPR := hq hp
  have HQR := hq hq'
  have HSH := hq (fun (r : SRow) WW (h : r.ok WW) (hs : Room r.l) => short_any r.o r.cap r.l WW h.le h.cp h.rd hs)
  have HP : Hq (∀ W', Below W.heap.size W W' → LawPost W (.returned (.bool true)) W') := hq (fun W' h2 => ⟨rfl, h2⟩)
  have HSM := hq (rsmall_any W hT hM)
  have HNA := hq na
  have HNB := hq nb
  have HNP := hq np
  have HNQ := hq nq
  have HRA := hq ra
  have HRB := hq rb
  have HRP := hq rp
  have HRQ := hq rq
  unfold SRow.v
  simp only at HNA HNB HNP HNQ HRA HRB HRP HRQ ⊢
  generalize LawPost W = PP at *
  clear hT hM ha hb hp hq' ra rb rp rq na nb np nq
  go_enter Tryd.func6, Tryd.ntmps6
  go_wp2_with fail
  refine HSM.o.mono ?_
  rintro e w1 ⟨rfl, hb1⟩
  have HB1 := hq hb1
  have HV := hq (HP.o w1 hb1)
  clear HSM hb1
  go_wp2_with fail
  refine (HSH.o ⟨ao, ac, al⟩ w1 (HA.o.grow HB1.o) HRA.o).mono ?_
  rintro e w2 ⟨⟨v, rfl, hSa⟩, hw⟩
  obtain rfl := hw.symm
  cases v with
  | false =>
    clear hSa HSH
    go_wp2_with fail
    first | exact HV.o | (go_ret; exact HV.o)
  | true =>
    have hLa := (hSa rfl).len
    clear hSa
    go_wp2_with fail
    refine (HSH.o ⟨bo, bc, bl⟩ w1 (HB.o.grow HB1.o) HRB.o).mono ?_
    rintro e w2 ⟨⟨v, rfl, hSb⟩, hw⟩
    obtain rfl := hw.symm
    cases v with
    | false =>
      clear hSb HSH
      go_wp2_with fail
      first | exact HV.o | (go_ret; exact HV.o)
    | true =>
      have hLb := (hSb rfl).len
      clear hSb
      go_wp2_with fail
      refine (HSH.o ⟨po, pc, pl⟩ w1 (HPR.o.grow HB1.o) HRP.o).mono ?_
      rintro e w2 ⟨⟨v, rfl, hSp⟩, hw⟩
      obtain rfl := hw.symm
      cases v with
      | false =>
        clear hSp HSH
        go_wp2_with fail
        first | exact HV.o | (go_ret; exact HV.o)
      | true =>
        have hLp := (hSp rfl).len
        clear hSp
        go_wp2_with fail
        refine (HSH.o ⟨qo, qc, ql⟩ w1 (HQR.o.grow HB1.o) HRQ.o).mono ?_
        rintro e w2 ⟨⟨v, rfl, hSq⟩, hw⟩
        obtain rfl := hw.symm
        cases v with
        | false =>
          clear hSq HSH
          go_wp2_with fail
          first | exact HV.o | (go_ret; exact HV.o)
        | true =>
          have hLq := (hSq rfl).len
          clear hSq
          clear HSH
          simp only at hLa hLb hLp hLq
          by_cases h1 : 190 < al.length + bl.length
          · have hz : (190 : Int) < (al.length : Int) + (bl.length : Int) := by omega
            go_wp2_with fail
            first | exact HV.o | (go_ret; exact HV.o)
          · have hz : ¬ (190 : Int) < (al.length : Int) + (bl.length : Int) := by omega
            by_cases h2 : 190 < pl.length + ql.length
            · have hz2 : (190 : Int) < (pl.length : Int) + (ql.length : Int) := by omega
              go_wp2_with fail
              first | exact HV.o | (go_ret; exact HV.o)
            · have hz2 : ¬ (190 : Int) < (pl.length : Int) + (ql.length : Int) := by omega
              clear HV
              go_wp2_with fail
              clear hz hz2
              go_loop [11, 12] (fun u i => ∃ k : Nat, k ≤ pl.length ∧ i = .int .i64 (k : Int) ∧ ∃ B : Bool, u = .bool B ∧ Hq (plainB (pl.take k) = B)) (fun _ i => pl.length - (intOf i).toNat)
              case atStart => exact ⟨0, Nat.zero_le _, rfl, true, rfl, hq rfl⟩
              case round =>
                obtain ⟨k, hk, rfl, B, rfl, hB⟩ := hrel
                by_cases hkl : k < pl.length
                · have hkz : (k : Int) < (pl.length : Int) := by omega
                  obtain ⟨b, f, rfl, c0⟩ := strs_at HPR.o.rd HB1.o hkl
                  simp only at c0
                  have HN := hq ((plainB_take hkl).trans (by rw [hB.o]) : plainB (pl.take (k + 1)) = (B && (!(pl[k] == [42]) && !(pl[k] == [42, 42]))))
                  clear hB HNP
                  generalize pl[k] = x at *
                  cases B with
                  | false =>
                    go_wp2_with fail
                    go_round
                    case rel => exact ⟨k + 1, hkl, int_eq (by omega), false, rfl, hq (by rw [HN.o]; rfl)⟩
                    case measure => simp [intOf]; omega
                  | true =>
                    cases e1 : (x == ([42] : Bs)) with
                    | true =>
                      have HN2 := hq (by rw [HN.o, e1]; rfl : plainB (pl.take (k + 1)) = false)
                      clear HN
                      go_wp2_with fail
                      go_round
                      case rel => exact ⟨k + 1, hkl, int_eq (by omega), false, rfl, HN2⟩
                      case measure => simp [intOf]; omega
                    | false =>
                      cases e2 : (x == ([42, 42] : Bs)) with
                      | true =>
                        have HN2 := hq (by rw [HN.o, e1, e2]; rfl : plainB (pl.take (k + 1)) = false)
                        clear HN
                        go_wp2_with fail
                        go_round
                        case rel => exact ⟨k + 1, hkl, int_eq (by omega), false, rfl, HN2⟩
                        case measure => simp [intOf]; omega
                      | false =>
                        have HN2 := hq (by rw [HN.o, e1, e2]; rfl : plainB (pl.take (k + 1)) = true)
                        clear HN
                        go_wp2_with fail
                        go_round
                        case rel => exact ⟨k + 1, hkl, int_eq (by omega), true, rfl, HN2⟩
                        case measure => simp [intOf]; omega
                · have hkz : ¬ (k : Int) < (pl.length : Int) := by omega
                  have HPL := hq (by rw [← hB.o, List.take_of_length_le (by omega)] : plainB pl = B)
                  clear hB hkl
                  clear HRA HRB HRP HRQ
                  have HMI : matchM pl al = true ↔ Glob pl al := matchM_iff hLp hLa
                  obtain ⟨SL, hSL⟩ : ∃ SL : List Bs, [[42, 42]] ++ pl = SL := ⟨_, rfl⟩
                  obtain ⟨PQ, hPQ⟩ : ∃ PQ : List Bs, pl ++ ql = PQ := ⟨_, rfl⟩
                  obtain ⟨AB, hAB⟩ : ∃ AB : List Bs, al ++ bl = AB := ⟨_, rfl⟩
                  obtain ⟨BA, hBA⟩ : ∃ BA : List Bs, bl ++ al = BA := ⟨_, rfl⟩
                  have HSL := hq hSL
                  have HPQ := hq hPQ
                  have HAB := hq hAB
                  have HBA := hq hBA
                  have HALL : Hq (matchM [[42, 42]] al = true) := hq ((matchM_iff (by simp) hLa).2 (Glob.all al))
                  have HPL2 := hq (fun h : B = true => plainB_glob (HPL.o.trans h) al)
                  have hlPQ : PQ.length = pl.length + ql.length := by rw [← hPQ, List.length_append]
                  have hlAB : AB.length = al.length + bl.length := by rw [← hAB, List.length_append]
                  have hlBA : BA.length = bl.length + al.length := by rw [← hBA, List.length_append]
                  have hlSL : SL.length = 1 + pl.length := by rw [← hSL, List.length_append]; rfl
                  clear HPL
                  cases hm0 : matchM pl al with
                  | false =>
                    have hm := hq hm0
                    have HEQ : Hq (B = true → pl ≠ al) := hq (fun h e => by rw [HMI.2 ((HPL2.o h).2 e)] at hm0; cases hm0)
                    clear HMI HPL2 hm0 hSL hPQ hAB hBA hlPQ hlAB hlBA hlSL
                    cases B with
                    | false =>
                      clear HEQ
                      go_wp2_with fail
                      refine (match_of false po pl.length pc pl ao al.length ac al rfl rfl hm.o w1 (HPR.o.grow HB1.o) (HA.o.grow HB1.o)).mono ?_
                      rintro e w4 ⟨rfl, hbw4⟩
                      have HB4 := hq (below_trans HB1.o hbw4)
                      clear hbw4
                      go_wp2_with (at_builtin; refine app_row (by rfl) _ _ rfl w4.heap.size (by rw [World.size_alloc]; omega) _ [[42, 42]] 1 rfl rfl (row_oneR w4 [42, 42]) ⟨po, pc, pl⟩ pl.length rfl rfl ((HPR.o.grow HB4.o).grow (below_alloc w4 _)) HNP.o SL HSL.o (by omega) ?_)
                      intro oS cS wS hownS hbS
                      have HBS := hq (below_trans HB4.o ((below_alloc w4 _).trans hbS))
                      have HS := hq hownS
                      clear hownS hbS
                      go_wp2_with fail
                      have hX := Whole.made wS 9 #[.string ⟨#[42, 42]⟩]
                      refine (match_of true (some ⟨wS.heap.size, 0, none⟩) 1 1 [[42, 42]] ao al.length ac al rfl rfl HALL.o _ (lit_okR (l := [[42, 42]]) hX rfl (by decide)) ((HA.o.grow HBS.o).grow (below_alloc wS _))).mono ?_
                      rintro e wT ⟨rfl, hbwT⟩
                      have HBT := hq (below_trans HBS.o (below_trans (below_alloc wS _) hbwT))
                      have HST := hq (own_below HS.o (below_trans (below_alloc wS _) hbwT))
                      clear hX hbwT HS HBS
                      go_wp2_with fail
                      refine (match_of false po pl.length pc pl ao al.length ac al rfl rfl hm.o wT (HPR.o.grow HBT.o) (HA.o.grow HBT.o)).mono ?_
                      rintro e wU ⟨rfl, hbwU⟩
                      have HBU := hq (below_trans HBT.o hbwU)
                      have HV := hq (HP.o _ HBU.o)
                      clear hbwU HP
                      go_wp2_with fail
                      first | exact HV.o | (go_ret; exact HV.o)
                    | true =>
                      have HNE := hq (HEQ.o rfl)
                      clear HEQ
                      go_wp2_with fail
                      refine (match_of false po pl.length pc pl ao al.length ac al rfl rfl hm.o w1 (HPR.o.grow HB1.o) (HA.o.grow HB1.o)).mono ?_
                      rintro e w2 ⟨rfl, hbw2⟩
                      have HB2 := hq (below_trans HB1.o hbw2)
                      clear hbw2
                      have hAr := HA.o.grow HB2.o
                      have hPr := HPR.o.grow HB2.o
                      go_wp2_with fail
                      refine (pcomp_any po ao pc ac pl al w2 hPr.le hPr.cp hPr.rd hAr.le hAr.cp hAr.rd).mono ?_
                      rintro e w3 ⟨⟨cc, rfl, hcc⟩, hb3⟩
                      have HB3 := hq (below_trans HB2.o hb3)
                      clear hb3 hAr hPr HB2
                      have hc1 : (cc == 0) = false := beq_eq_false_iff_ne.2 (fun e => HNE.o (hcc.1 e))
                      clear hcc HNE
                      go_wp2_with fail
                      refine (match_of false po pl.length pc pl ao al.length ac al rfl rfl hm.o w3 (HPR.o.grow HB3.o) (HA.o.grow HB3.o)).mono ?_
                      rintro e w4 ⟨rfl, hbw4⟩
                      have HB4 := hq (below_trans HB3.o hbw4)
                      clear hbw4
                      go_wp2_with (at_builtin; refine app_row (by rfl) _ _ rfl w4.heap.size (by rw [World.size_alloc]; omega) _ [[42, 42]] 1 rfl rfl (row_oneR w4 [42, 42]) ⟨po, pc, pl⟩ pl.length rfl rfl ((HPR.o.grow HB4.o).grow (below_alloc w4 _)) HNP.o SL HSL.o (by omega) ?_)
                      intro oS cS wS hownS hbS
                      have HBS := hq (below_trans HB4.o ((below_alloc w4 _).trans hbS))
                      have HS := hq hownS
                      clear hownS hbS
                      go_wp2_with fail
                      have hX := Whole.made wS 9 #[.string ⟨#[42, 42]⟩]
                      refine (match_of true (some ⟨wS.heap.size, 0, none⟩) 1 1 [[42, 42]] ao al.length ac al rfl rfl HALL.o _ (lit_okR (l := [[42, 42]]) hX rfl (by decide)) ((HA.o.grow HBS.o).grow (below_alloc wS _))).mono ?_
                      rintro e wT ⟨rfl, hbwT⟩
                      have HBT := hq (below_trans HBS.o (below_trans (below_alloc wS _) hbwT))
                      have HST := hq (own_below HS.o (below_trans (below_alloc wS _) hbwT))
                      clear hX hbwT HS HBS
                      go_wp2_with fail
                      refine (match_of false po pl.length pc pl ao al.length ac al rfl rfl hm.o wT (HPR.o.grow HBT.o) (HA.o.grow HBT.o)).mono ?_
                      rintro e wU ⟨rfl, hbwU⟩
                      have HBU := hq (below_trans HBT.o hbwU)
                      have HV := hq (HP.o _ HBU.o)
                      clear hbwU HP
                      go_wp2_with fail
                      first | exact HV.o | (go_ret; exact HV.o)
                  | true =>
                    have hm := hq hm0
                    have hG := HMI.1 hm0
                    have HSTAR : Hq (matchM SL BA = true) := hq ((matchM_iff (by omega) (by omega)).2 (by rw [← hSL, ← hBA]; exact Glob.star hG))
                    have HPQG : Hq (matchM ql bl = true → matchM PQ AB = true) := hq (fun h => (matchM_iff (by omega) (by omega)).2 (by rw [← hPQ, ← hAB]; exact Glob.app hG ((matchM_iff hLq hLb).1 h)))
                    have HEQ := hq (fun h : B = true => (HPL2.o h).1 hG)
                    clear hG
                    clear HMI HPL2 hm0 hSL hPQ hAB hBA hlPQ hlAB hlBA hlSL
                    cases B with
                    | false =>
                      clear HEQ
                      go_wp2_with fail
                      refine (match_of true po pl.length pc pl ao al.length ac al rfl rfl hm.o w1 (HPR.o.grow HB1.o) (HA.o.grow HB1.o)).mono ?_
                      rintro e w4 ⟨rfl, hbw4⟩
                      have HB4 := hq (below_trans HB1.o hbw4)
                      clear hbw4
                      go_wp2_with fail
                      cases hmq : matchM ql bl with
                      | false =>
                        refine (match_of false qo ql.length qc ql bo bl.length bc bl rfl rfl hmq w4 (HQR.o.grow HB4.o) (HB.o.grow HB4.o)).mono ?_
                        rintro e w5 ⟨rfl, hbw5⟩
                        have HB5 := hq (below_trans HB4.o hbw5)
                        clear hbw5
                        clear hmq
                        go_wp2_with (at_builtin; refine app_row (by rfl) _ _ rfl w5.heap.size (by rw [World.size_alloc]; omega) _ [[42, 42]] 1 rfl rfl (row_oneR w5 [42, 42]) ⟨po, pc, pl⟩ pl.length rfl rfl ((HPR.o.grow HB5.o).grow (below_alloc w5 _)) HNP.o SL HSL.o (by omega) ?_)
                        intro oS cS wS hownS hbS
                        have HBS := hq (below_trans HB5.o ((below_alloc w5 _).trans hbS))
                        have HS := hq hownS
                        clear hownS hbS
                        go_wp2_with fail
                        have hX := Whole.made wS 9 #[.string ⟨#[42, 42]⟩]
                        refine (match_of true (some ⟨wS.heap.size, 0, none⟩) 1 1 [[42, 42]] ao al.length ac al rfl rfl HALL.o _ (lit_okR (l := [[42, 42]]) hX rfl (by decide)) ((HA.o.grow HBS.o).grow (below_alloc wS _))).mono ?_
                        rintro e wT ⟨rfl, hbwT⟩
                        have HBT := hq (below_trans HBS.o (below_trans (below_alloc wS _) hbwT))
                        have HST := hq (own_below HS.o (below_trans (below_alloc wS _) hbwT))
                        clear hX hbwT HS HBS
                        go_wp2_with fail
                        refine (match_of true po pl.length pc pl ao al.length ac al rfl rfl hm.o wT (HPR.o.grow HBT.o) (HA.o.grow HBT.o)).mono ?_
                        rintro e wU ⟨rfl, hbwU⟩
                        have HBU := hq (below_trans HBT.o hbwU)
                        have HSU := hq (own_below HST.o hbwU)
                        clear hbwU HBT HST
                        go_wp2_with (at_builtin; refine app_row (by rfl) _ _ rfl wU.heap.size (by rw [World.size_alloc]; omega) _ [] 0 rfl rfl (row_noneR wU _ 1) ⟨bo, bc, bl⟩ bl.length rfl rfl ((HB.o.grow HBU.o).grow (below_alloc wU _)) HNB.o bl rfl (by omega) ?_)
                        intro oX cX wX hownX hbX
                        have hUX := (below_alloc wU (.cells #[] 9)).trans hbX
                        have HUX := hq hUX
                        have HBX := hq (below_trans HBU.o hUX)
                        have HX := hq hownX
                        clear hUX hbX hownX
                        go_wp2_with (at_builtin; refine app_row (by rfl) _ _ rfl wU.heap.size HUX.o.size _ bl bl.length rfl rfl HX.o ⟨ao, ac, al⟩ al.length rfl rfl (HA.o.grow HBX.o) HNA.o BA HBA.o (by omega) ?_)
                        intro oY cY wY hownY hbY
                        have hUY := HUX.o.trans hbY
                        have HBY := hq (below_trans HBU.o hUY)
                        have HSY := hq (own_below HSU.o hUY)
                        have HY := hq hownY
                        clear hUY hbY hownY HUX HX
                        go_wp2_with fail
                        refine (match_of true oS SL.length cS SL oY BA.length cY BA rfl rfl HSTAR.o wY (own_srow HSY.o) (own_srow HY.o)).mono ?_
                        rintro e wZ ⟨rfl, hbwZ⟩
                        have HV := hq (HP.o _ (below_trans HBY.o hbwZ))
                        clear hbwZ HP HSY HY
                        go_wp2_with fail
                        first | exact HV.o | (go_ret; exact HV.o)
                      | true =>
                        refine (match_of true qo ql.length qc ql bo bl.length bc bl rfl rfl hmq w4 (HQR.o.grow HB4.o) (HB.o.grow HB4.o)).mono ?_
                        rintro e w5 ⟨rfl, hbw5⟩
                        have HB5 := hq (below_trans HB4.o hbw5)
                        clear hbw5
                        have HPQM := hq (HPQG.o hmq)
                        clear hmq
                        go_wp2_with (at_builtin; refine app_row (by rfl) _ _ rfl w5.heap.size (by rw [World.size_alloc]; omega) _ [] 0 rfl rfl (row_noneR w5 _ 1) ⟨po, pc, pl⟩ pl.length rfl rfl ((HPR.o.grow HB5.o).grow (below_alloc w5 _)) HNP.o pl rfl (by omega) ?_)
                        intro o6 c6 w6 hown6 hb6
                        have h56 := (below_alloc w5 (.cells #[] 9)).trans hb6
                        have H56 := hq h56
                        have HB6 := hq (below_trans HB5.o h56)
                        have H6 := hq hown6
                        clear h56 hb6 hown6
                        go_wp2_with (at_builtin; refine app_row (by rfl) _ _ rfl w5.heap.size H56.o.size _ pl pl.length rfl rfl H6.o ⟨qo, qc, ql⟩ ql.length rfl rfl (HQR.o.grow HB6.o) HNQ.o PQ HPQ.o (by omega) ?_)
                        intro o7 c7 w7 hown7 hb7
                        have HB7 := hq (below_trans HB5.o (H56.o.trans hb7))
                        have H7 := hq hown7
                        clear hb7 hown7 H56 H6 HB6
                        go_wp2_with (at_builtin; refine app_row (by rfl) _ _ rfl w7.heap.size (by rw [World.size_alloc]; omega) _ [] 0 rfl rfl (row_noneR w7 _ 1) ⟨ao, ac, al⟩ al.length rfl rfl ((HA.o.grow HB7.o).grow (below_alloc w7 _)) HNA.o al rfl (by omega) ?_)
                        intro o8 c8 w8 hown8 hb8
                        have h78 := (below_alloc w7 (.cells #[] 9)).trans hb8
                        have H78 := hq h78
                        have HB8 := hq (below_trans HB7.o h78)
                        have H8 := hq hown8
                        clear h78 hb8 hown8
                        go_wp2_with (at_builtin; refine app_row (by rfl) _ _ rfl w7.heap.size H78.o.size _ al al.length rfl rfl H8.o ⟨bo, bc, bl⟩ bl.length rfl rfl (HB.o.grow HB8.o) HNB.o AB HAB.o (by omega) ?_)
                        intro o9 c9 w9 hown9 hb9
                        have h79 := H78.o.trans hb9
                        have HB9 := hq (below_trans HB7.o h79)
                        have H7b := hq (own_below H7.o h79)
                        have H9 := hq hown9
                        clear h79 hb9 hown9 H78 H8 HB8 H7
                        go_wp2_with fail
                        refine (match_of true o7 PQ.length c7 PQ o9 AB.length c9 AB rfl rfl HPQM.o w9 (own_srow H7b.o) (own_srow H9.o)).mono ?_
                        rintro e w10 ⟨rfl, hbw10⟩
                        have HB10 := hq (below_trans HB9.o hbw10)
                        clear hbw10 H7b H9
                        go_wp2_with (at_builtin; refine app_row (by rfl) _ _ rfl w10.heap.size (by rw [World.size_alloc]; omega) _ [[42, 42]] 1 rfl rfl (row_oneR w10 [42, 42]) ⟨po, pc, pl⟩ pl.length rfl rfl ((HPR.o.grow HB10.o).grow (below_alloc w10 _)) HNP.o SL HSL.o (by omega) ?_)
                        intro oS cS wS hownS hbS
                        have HBS := hq (below_trans HB10.o ((below_alloc w10 _).trans hbS))
                        have HS := hq hownS
                        clear hownS hbS
                        go_wp2_with fail
                        have hX := Whole.made wS 9 #[.string ⟨#[42, 42]⟩]
                        refine (match_of true (some ⟨wS.heap.size, 0, none⟩) 1 1 [[42, 42]] ao al.length ac al rfl rfl HALL.o _ (lit_okR (l := [[42, 42]]) hX rfl (by decide)) ((HA.o.grow HBS.o).grow (below_alloc wS _))).mono ?_
                        rintro e wT ⟨rfl, hbwT⟩
                        have HBT := hq (below_trans HBS.o (below_trans (below_alloc wS _) hbwT))
                        have HST := hq (own_below HS.o (below_trans (below_alloc wS _) hbwT))
                        clear hX hbwT HS HBS
                        go_wp2_with fail
                        refine (match_of true po pl.length pc pl ao al.length ac al rfl rfl hm.o wT (HPR.o.grow HBT.o) (HA.o.grow HBT.o)).mono ?_
                        rintro e wU ⟨rfl, hbwU⟩
                        have HBU := hq (below_trans HBT.o hbwU)
                        have HSU := hq (own_below HST.o hbwU)
                        clear hbwU HBT HST
                        go_wp2_with (at_builtin; refine app_row (by rfl) _ _ rfl wU.heap.size (by rw [World.size_alloc]; omega) _ [] 0 rfl rfl (row_noneR wU _ 1) ⟨bo, bc, bl⟩ bl.length rfl rfl ((HB.o.grow HBU.o).grow (below_alloc wU _)) HNB.o bl rfl (by omega) ?_)
                        intro oX cX wX hownX hbX
                        have hUX := (below_alloc wU (.cells #[] 9)).trans hbX
                        have HUX := hq hUX
                        have HBX := hq (below_trans HBU.o hUX)
                        have HX := hq hownX
                        clear hUX hbX hownX
                        go_wp2_with (at_builtin; refine app_row (by rfl) _ _ rfl wU.heap.size HUX.o.size _ bl bl.length rfl rfl HX.o ⟨ao, ac, al⟩ al.length rfl rfl (HA.o.grow HBX.o) HNA.o BA HBA.o (by omega) ?_)
                        intro oY cY wY hownY hbY
                        have hUY := HUX.o.trans hbY
                        have HBY := hq (below_trans HBU.o hUY)
                        have HSY := hq (own_below HSU.o hUY)
                        have HY := hq hownY
                        clear hUY hbY hownY HUX HX
                        go_wp2_with fail
                        refine (match_of true oS SL.length cS SL oY BA.length cY BA rfl rfl HSTAR.o wY (own_srow HSY.o) (own_srow HY.o)).mono ?_
                        rintro e wZ ⟨rfl, hbwZ⟩
                        have HV := hq (HP.o _ (below_trans HBY.o hbwZ))
                        clear hbwZ HP HSY HY
                        go_wp2_with fail
                        first | exact HV.o | (go_ret; exact HV.o)
                    | true =>
                      have HNE := hq (HEQ.o rfl)
                      clear HEQ
                      go_wp2_with fail
                      refine (match_of true po pl.length pc pl ao al.length ac al rfl rfl hm.o w1 (HPR.o.grow HB1.o) (HA.o.grow HB1.o)).mono ?_
                      rintro e w2 ⟨rfl, hbw2⟩
                      have HB2 := hq (below_trans HB1.o hbw2)
                      clear hbw2
                      have hAr := HA.o.grow HB2.o
                      have hPr := HPR.o.grow HB2.o
                      go_wp2_with fail
                      refine (pcomp_any po ao pc ac pl al w2 hPr.le hPr.cp hPr.rd hAr.le hAr.cp hAr.rd).mono ?_
                      rintro e w3 ⟨⟨cc, rfl, hcc⟩, hb3⟩
                      have HB3 := hq (below_trans HB2.o hb3)
                      clear hb3 hAr hPr HB2
                      obtain rfl := hcc.2 HNE.o
                      clear hcc HNE
                      go_wp2_with fail
                      refine (match_of true po pl.length pc pl ao al.length ac al rfl rfl hm.o w3 (HPR.o.grow HB3.o) (HA.o.grow HB3.o)).mono ?_
                      rintro e w4 ⟨rfl, hbw4⟩
                      have HB4 := hq (below_trans HB3.o hbw4)
                      clear hbw4
                      go_wp2_with fail
                      cases hmq : matchM ql bl with
                      | false =>
                        refine (match_of false qo ql.length qc ql bo bl.length bc bl rfl rfl hmq w4 (HQR.o.grow HB4.o) (HB.o.grow HB4.o)).mono ?_
                        rintro e w5 ⟨rfl, hbw5⟩
                        have HB5 := hq (below_trans HB4.o hbw5)
                        clear hbw5
                        clear hmq
                        go_wp2_with (at_builtin; refine app_row (by rfl) _ _ rfl w5.heap.size (by rw [World.size_alloc]; omega) _ [[42, 42]] 1 rfl rfl (row_oneR w5 [42, 42]) ⟨po, pc, pl⟩ pl.length rfl rfl ((HPR.o.grow HB5.o).grow (below_alloc w5 _)) HNP.o SL HSL.o (by omega) ?_)
                        intro oS cS wS hownS hbS
                        have HBS := hq (below_trans HB5.o ((below_alloc w5 _).trans hbS))
                        have HS := hq hownS
                        clear hownS hbS
                        go_wp2_with fail
                        have hX := Whole.made wS 9 #[.string ⟨#[42, 42]⟩]
                        refine (match_of true (some ⟨wS.heap.size, 0, none⟩) 1 1 [[42, 42]] ao al.length ac al rfl rfl HALL.o _ (lit_okR (l := [[42, 42]]) hX rfl (by decide)) ((HA.o.grow HBS.o).grow (below_alloc wS _))).mono ?_
                        rintro e wT ⟨rfl, hbwT⟩
                        have HBT := hq (below_trans HBS.o (below_trans (below_alloc wS _) hbwT))
                        have HST := hq (own_below HS.o (below_trans (below_alloc wS _) hbwT))
                        clear hX hbwT HS HBS
                        go_wp2_with fail
                        refine (match_of true po pl.length pc pl ao al.length ac al rfl rfl hm.o wT (HPR.o.grow HBT.o) (HA.o.grow HBT.o)).mono ?_
                        rintro e wU ⟨rfl, hbwU⟩
                        have HBU := hq (below_trans HBT.o hbwU)
                        have HSU := hq (own_below HST.o hbwU)
                        clear hbwU HBT HST
                        go_wp2_with (at_builtin; refine app_row (by rfl) _ _ rfl wU.heap.size (by rw [World.size_alloc]; omega) _ [] 0 rfl rfl (row_noneR wU _ 1) ⟨bo, bc, bl⟩ bl.length rfl rfl ((HB.o.grow HBU.o).grow (below_alloc wU _)) HNB.o bl rfl (by omega) ?_)
                        intro oX cX wX hownX hbX
                        have hUX := (below_alloc wU (.cells #[] 9)).trans hbX
                        have HUX := hq hUX
                        have HBX := hq (below_trans HBU.o hUX)
                        have HX := hq hownX
                        clear hUX hbX hownX
                        go_wp2_with (at_builtin; refine app_row (by rfl) _ _ rfl wU.heap.size HUX.o.size _ bl bl.length rfl rfl HX.o ⟨ao, ac, al⟩ al.length rfl rfl (HA.o.grow HBX.o) HNA.o BA HBA.o (by omega) ?_)
                        intro oY cY wY hownY hbY
                        have hUY := HUX.o.trans hbY
                        have HBY := hq (below_trans HBU.o hUY)
                        have HSY := hq (own_below HSU.o hUY)
                        have HY := hq hownY
                        clear hUY hbY hownY HUX HX
                        go_wp2_with fail
                        refine (match_of true oS SL.length cS SL oY BA.length cY BA rfl rfl HSTAR.o wY (own_srow HSY.o) (own_srow HY.o)).mono ?_
                        rintro e wZ ⟨rfl, hbwZ⟩
                        have HV := hq (HP.o _ (below_trans HBY.o hbwZ))
                        clear hbwZ HP HSY HY
                        go_wp2_with fail
                        first | exact HV.o | (go_ret; exact HV.o)
                      | true =>
                        refine (match_of true qo ql.length qc ql bo bl.length bc bl rfl rfl hmq w4 (HQR.o.grow HB4.o) (HB.o.grow HB4.o)).mono ?_
                        rintro e w5 ⟨rfl, hbw5⟩
                        have HB5 := hq (below_trans HB4.o hbw5)
                        clear hbw5
                        have HPQM := hq (HPQG.o hmq)
                        clear hmq
                        go_wp2_with (at_builtin; refine app_row (by rfl) _ _ rfl w5.heap.size (by rw [World.size_alloc]; omega) _ [] 0 rfl rfl (row_noneR w5 _ 1) ⟨po, pc, pl⟩ pl.length rfl rfl ((HPR.o.grow HB5.o).grow (below_alloc w5 _)) HNP.o pl rfl (by omega) ?_)
                        intro o6 c6 w6 hown6 hb6
                        have h56 := (below_alloc w5 (.cells #[] 9)).trans hb6
                        have H56 := hq h56
                        have HB6 := hq (below_trans HB5.o h56)
                        have H6 := hq hown6
                        clear h56 hb6 hown6
                        go_wp2_with (at_builtin; refine app_row (by rfl) _ _ rfl w5.heap.size H56.o.size _ pl pl.length rfl rfl H6.o ⟨qo, qc, ql⟩ ql.length rfl rfl (HQR.o.grow HB6.o) HNQ.o PQ HPQ.o (by omega) ?_)
                        intro o7 c7 w7 hown7 hb7
                        have HB7 := hq (below_trans HB5.o (H56.o.trans hb7))
                        have H7 := hq hown7
                        clear hb7 hown7 H56 H6 HB6
                        go_wp2_with (at_builtin; refine app_row (by rfl) _ _ rfl w7.heap.size (by rw [World.size_alloc]; omega) _ [] 0 rfl rfl (row_noneR w7 _ 1) ⟨ao, ac, al⟩ al.length rfl rfl ((HA.o.grow HB7.o).grow (below_alloc w7 _)) HNA.o al rfl (by omega) ?_)
                        intro o8 c8 w8 hown8 hb8
                        have h78 := (below_alloc w7 (.cells #[] 9)).trans hb8
                        have H78 := hq h78
                        have HB8 := hq (below_trans HB7.o h78)
                        have H8 := hq hown8
                        clear h78 hb8 hown8
                        go_wp2_with (at_builtin; refine app_row (by rfl) _ _ rfl w7.heap.size H78.o.size _ al al.length rfl rfl H8.o ⟨bo, bc, bl⟩ bl.length rfl rfl (HB.o.grow HB8.o) HNB.o AB HAB.o (by omega) ?_)
                        intro o9 c9 w9 hown9 hb9
                        have h79 := H78.o.trans hb9
                        have HB9 := hq (below_trans HB7.o h79)
                        have H7b := hq (own_below H7.o h79)
                        have H9 := hq hown9
                        clear h79 hb9 hown9 H78 H8 HB8 H7
                        go_wp2_with fail
                        refine (match_of true o7 PQ.length c7 PQ o9 AB.length c9 AB rfl rfl HPQM.o w9 (own_srow H7b.o) (own_srow H9.o)).mono ?_
                        rintro e w10 ⟨rfl, hbw10⟩
                        have HB10 := hq (below_trans HB9.o hbw10)
                        clear hbw10 H7b H9
                        go_wp2_with (at_builtin; refine app_row (by rfl) _ _ rfl w10.heap.size (by rw [World.size_alloc]; omega) _ [[42, 42]] 1 rfl rfl (row_oneR w10 [42, 42]) ⟨po, pc, pl⟩ pl.length rfl rfl ((HPR.o.grow HB10.o).grow (below_alloc w10 _)) HNP.o SL HSL.o (by omega) ?_)
                        intro oS cS wS hownS hbS
                        have HBS := hq (below_trans HB10.o ((below_alloc w10 _).trans hbS))
                        have HS := hq hownS
                        clear hownS hbS
                        go_wp2_with fail
                        have hX := Whole.made wS 9 #[.string ⟨#[42, 42]⟩]
                        refine (match_of true (some ⟨wS.heap.size, 0, none⟩) 1 1 [[42, 42]] ao al.length ac al rfl rfl HALL.o _ (lit_okR (l := [[42, 42]]) hX rfl (by decide)) ((HA.o.grow HBS.o).grow (below_alloc wS _))).mono ?_
                        rintro e wT ⟨rfl, hbwT⟩
                        have HBT := hq (below_trans HBS.o (below_trans (below_alloc wS _) hbwT))
                        have HST := hq (own_below HS.o (below_trans (below_alloc wS _) hbwT))
                        clear hX hbwT HS HBS
                        go_wp2_with fail
                        refine (match_of true po pl.length pc pl ao al.length ac al rfl rfl hm.o wT (HPR.o.grow HBT.o) (HA.o.grow HBT.o)).mono ?_
                        rintro e wU ⟨rfl, hbwU⟩
                        have HBU := hq (below_trans HBT.o hbwU)
                        have HSU := hq (own_below HST.o hbwU)
                        clear hbwU HBT HST
                        go_wp2_with (at_builtin; refine app_row (by rfl) _ _ rfl wU.heap.size (by rw [World.size_alloc]; omega) _ [] 0 rfl rfl (row_noneR wU _ 1) ⟨bo, bc, bl⟩ bl.length rfl rfl ((HB.o.grow HBU.o).grow (below_alloc wU _)) HNB.o bl rfl (by omega) ?_)
                        intro oX cX wX hownX hbX
                        have hUX := (below_alloc wU (.cells #[] 9)).trans hbX
                        have HUX := hq hUX
                        have HBX := hq (below_trans HBU.o hUX)
                        have HX := hq hownX
                        clear hUX hbX hownX
                        go_wp2_with (at_builtin; refine app_row (by rfl) _ _ rfl wU.heap.size HUX.o.size _ bl bl.length rfl rfl HX.o ⟨ao, ac, al⟩ al.length rfl rfl (HA.o.grow HBX.o) HNA.o BA HBA.o (by omega) ?_)
                        intro oY cY wY hownY hbY
                        have hUY := HUX.o.trans hbY
                        have HBY := hq (below_trans HBU.o hUY)
                        have HSY := hq (own_below HSU.o hUY)
                        have HY := hq hownY
                        clear hUY hbY hownY HUX HX
                        go_wp2_with fail
                        refine (match_of true oS SL.length cS SL oY BA.length cY BA rfl rfl HSTAR.o wY (own_srow HSY.o) (own_srow HY.o)).mono ?_
                        rintro e wZ ⟨rfl, hbwZ⟩
                        have HV := hq (HP.o _ (below_trans HBY.o hbwZ))
                        clear hbwZ HP HSY HY
                        go_wp2_with fail
                        first | exact HV.o | (go_ret; exact HV.o)
end Go.Proofs.YtmomildkopainaaDoor
