/-
  WALKS: mark.Pick.
-/
import Derived.Test.YtekihjffefokjaaDoorMkG
import Derived.Test.YtekihjffefokjaaDoorMkD
namespace Go.Proofs.YtekihjffefokjaaDoor
open Go.RowKit

def pickB (l : List MPart) (ps : List Int) : Option Bs := if rightB l = true then pickGo l ps else none
theorem pickB_eq (l : List MPart) (ps : List Int) : pickB l ps = pickM l ps := by
  unfold pickB pickM
  by_cases h : rightB l = true
  · rw [if_pos h, if_pos ((rightB_iff l).1 h)]
  · rw [if_neg h, if_neg (fun k => h ((rightB_iff l).2 k))]
def PickPost (r : Option Bs) (w : World) (e : Ending) (w' : World) : Prop :=
  e = .returned (.tuple #[.string (st (r.getD [])), .int .i64 (if r.isSome = true then 0 else 1)]) ∧ Below w.heap.size w w'
theorem ints_cons {w : World} {o : Option Addr} {p : Int} {qs : List Int} (h : IntsIn w o (p :: qs)) : ∃ b f, o = some ⟨b, f, none⟩ ∧ w.cell? ⟨b, f, none⟩ = some (.int .i64 p) ∧ IntsIn w (some ⟨b, f + 1, none⟩) qs := by
  obtain ⟨b, f, rfl, hc⟩ := h 0 (Nat.zero_lt_succ _)
  refine ⟨b, f, rfl, hc, fun i hi => ?_⟩
  obtain ⟨b', f', he, hc'⟩ := h (i + 1) (by simpa using hi)
  obtain ⟨rfl, rfl⟩ : b = b' ∧ f = f' := by simpa using he
  refine ⟨b, f + 1, rfl, ?_⟩
  rw [show f + 1 + i = f + (i + 1) by omega]
  exact hc'
theorem pickGo_step {l : List MPart} {k : Nat} (h : k < l.length) (qs : List Int) : pickGo (l.drop k) qs = pickGo (l[k] :: l.drop (k + 1)) qs := by rw [List.drop_eq_getElem_cons h]
theorem pickGo_end {l : List MPart} {k : Nat} (h : ¬ k < l.length) (qs : List Int) : pickGo (l.drop k) qs = pickGo [] qs := by rw [List.drop_eq_nil_of_le (by omega)]
theorem map_app (a b : Bs) (o : Option Bs) : ((o.map fun t => b ++ t).map fun t => a ++ t) = o.map fun t => (a ++ b) ++ t := by
  cases o with
  | none => rfl
  | some t => show some (a ++ (b ++ t)) = some ((a ++ b) ++ t); rw [List.append_assoc]

set_option maxHeartbeats 4000000 in
set_option maxRecDepth 1000000 in
theorem pick_any (o : Option Addr) (cap : Nat) (l : List MPart) (po : Option Addr) (pc : Nat) (ps : List Int) (w : World) (hl : l.length ≤ cap) (hc : cap ≤ maxLen) (hin : PartsIn w o l) (hs : ∀ x ∈ l, Lens 268435456 x) (hpl : ps.length ≤ pc) (hpc : pc ≤ maxLen) (hpi : IntsIn w po ps) :
    Calls Tryd.prog 26 #[.slice o l.length cap, .slice po ps.length pc] w (PickPost (pickB l ps) w) := by
  have HRT := hq (mright_any o cap l w hl hc hin)
  have HIN := hq hin
  have HPI := hq hpi
  have HS := hq hs
  have hc0 := hc
  have hp0 := hpc
  unfold maxLen at hc hpc
  clear hin hpi hs
  have HP0 : Hq (pickB l ps = none → ∀ w', Below w.heap.size w w' → PickPost (pickB l ps) w (.returned (.tuple #[.string ⟨#[]⟩, .int .i64 1])) w') := hq (fun h w' hw => by rw [h]; exact ⟨rfl, hw⟩)
  have HP1 : Hq (∀ t, pickB l ps = some t → ∀ w', Below w.heap.size w w' → PickPost (pickB l ps) w (.returned (.tuple #[.string (st t), .int .i64 0])) w') := hq (fun t h w' hw => by rw [h]; exact ⟨rfl, hw⟩)
  cases hR : rightB l with
  | false =>
    rw [hR] at HRT
    have HP := hq (HP0.o (by unfold pickB; rw [hR]; rfl))
    clear hR HS HIN HPI HP0 HP1
    go_enter Tryd.func26, Tryd.ntmps26
    go_wp2_with fail
    refine HRT.o.mono ?_
    rintro e w1 ⟨rfl, hb1⟩
    clear HRT
    go_wp2_with fail
    go_ret2
    exact HP.o _ hb1
  | true =>
    rw [hR] at HRT
    have hll := right_len hR
    have hok := (okB_iff l true).1 (by unfold rightB at hR; rw [Bool.and_eq_true] at hR; exact hR.2)
    have HOK := hq hok
    have HEN : Hq (pickB l ps = (pickGo (l.drop 0) ps).map fun t => [] ++ t) := hq (by unfold pickB; rw [hR, if_pos rfl]; rw [List.drop_zero]; cases pickGo l ps <;> rfl)
    clear hR hok
    generalize pickB l ps = R at *
    generalize PickPost R w = PP at *
    go_enter Tryd.func26, Tryd.ntmps26
    go_wp2_with fail
    refine HRT.o.mono ?_
    rintro e w1 ⟨rfl, hb1⟩
    have hbd : Bld w1.heap.size w1.heap.size [] (w1.alloc (.cells #[.pointer none, .slice none 0 0] 71)) := Lib.IsBuilderF.of (Lib.fresh_isBuilder _ _ _)
    have hbA := below_alloc w1 (.cells #[.pointer none, .slice none 0 0] 71)
    have HBD := hq hbd
    have HBA := hq hbA
    have HW1 := hq hb1
    clear HRT hb1 hbd hbA
    go_wp2_with fail
    generalize w1.alloc (.cells #[.pointer none, .slice none 0 0] 71) = wa at *
    generalize hN : w1.heap.size = N at *
    have HNW : Hq (w.heap.size ≤ N) := hq (by rw [← hN]; exact HW1.o.size)
    have HN1 : Hq (N ≤ w1.heap.size) := hq (by rw [hN]; exact Nat.le_refl _)
    clear hN
    go_loopw [1, 14] (fun v i wr => ∃ (k : Nat) (acc : Bs) (qs : List Int) (qo : Option Addr) (qc : Nat), k ≤ l.length ∧ i = .int .i64 (k : Int) ∧ v = .slice qo qs.length qc ∧ qs.length ≤ qc ∧ qc ≤ maxLen ∧ Hq (IntsIn w qo qs) ∧ acc.length ≤ k * 536870912 ∧ Hq (Bld N N acc wr) ∧ Hq (R = (pickGo (l.drop k) qs).map fun t => acc ++ t) ∧ Hq (Below N w1 wr)) (fun _ i _ => l.length - (intOf i).toNat)
    case atStart => exact ⟨0, [], ps, po, pc, Nat.zero_le _, rfl, rfl, hpl, hp0, HPI, Nat.zero_le _, HBD, HEN, HBA⟩
    case round =>
      obtain ⟨k, acc, qs, qo, qc, hk, rfl, rfl, hql, hqm, hqi, hal, hd, he, hb⟩ := hrel
      clear HPI HBD HEN HBA
      have hqm0 := hqm
      unfold maxLen at hqm
      have hNr : N ≤ wr.heap.size := Nat.le_trans HN1.o hb.o.size
      by_cases h : k < l.length
      · obtain ⟨b, f, rfl, hp⟩ := HIN.o k h
        obtain ⟨c0, c1, c2, c3, c4⟩ := hp.grow (HW1.o.trans (hb.o.mono HNW.o))
        have HTX := hq (okL_text l true HOK.o l[k] (List.getElem_mem h))
        have hsx := HS.o l[k] (List.getElem_mem h)
        have HE2 : Hq (R = (pickGo (l[k] :: l.drop (k + 1)) qs).map fun t => acc ++ t) := hq (by rw [he.o, pickGo_step h])
        clear he hp HIN HS HOK
        generalize l[k] = x at *
        have HXB := hq (Whole.made wr 53 (partCs x))
        have hgN : wr.heap.size ≠ N := by have := hd.o.lt; omega
        have HDX := hq (hd.o.below (below_alloc wr (.cells (partCs x) 53)))
        have HBX := hq (hb.o.alloc (Nat.le_trans (by have := HN1.o; omega) hb.o.size) (.cells (partCs x) 53))
        have HNX : Hq (N ≤ (wr.alloc (.cells (partCs x) 53)).heap.size) := hq (by rw [World.size_alloc]; omega)
        clear hd hb
        cases hx : x.hunk with
        | false =>
          obtain ⟨xh, T, s0, s1, s2⟩ := x
          simp only at hx
          subst hx
          have hT : T.length ≤ 268435456 := hsx.1
          have HWS := hq (wstring N N acc T _ HDX.o (by omega) HNX.o)
          have HN : Hq (R = (pickGo (l.drop (k + 1)) qs).map fun t => (acc ++ T) ++ t) := hq (by rw [HE2.o, pickGo_text rfl, map_app])
          have hal2 : (acc ++ T).length ≤ (k + 1) * 536870912 := by rw [List.length_append]; omega
          have HXC := hq (fun w5 (h : Wrote N N (acc ++ T) (wr.alloc (.cells (partCs ⟨false, T, s0, s1, s2⟩) 53)) w5) => wrote_whole h HXB.o hgN)
          unfold partCs at HXC HWS HBX
          simp only at HXC HWS HBX
          clear HE2 HTX HXB HDX HNX hsx HP0 HP1
          go_wp2_with fail
          refine HWS.o.mono ?_
          rintro e w5 ⟨⟨nn, rfl⟩, hw5⟩
          have hxc := HXC.o _ hw5
          have x0 := hxc.at_ 0
          have HB5 := hq (HBX.o.trans hw5.2.1)
          have HD5 := hq hw5.1
          clear HWS hw5 HXC hxc
          go_wp2_with fail
          go_roundw
          case rel => exact ⟨k + 1, acc ++ T, qs, qo, qc, h, int_eq (by omega), rfl, hql, hqm0, hqi, hal2, HD5, HN, HB5⟩
          case measure => simp [intOf]; omega
        | true =>
          obtain ⟨xh, xt, s0, s1, s2⟩ := x
          simp only at hx
          subst hx
          obtain rfl : xt = [] := HTX.o rfl
          have HWS := hq (wstring N N acc [] _ HDX.o (by simp only [List.length_nil]; omega) HNX.o)
          rw [List.append_nil] at HWS
          have HXC := hq (fun w5 (h : Wrote N N acc (wr.alloc (.cells (partCs ⟨true, [], s0, s1, s2⟩) 53)) w5) => wrote_whole h HXB.o hgN)
          unfold partCs at HXC HWS HBX
          simp only at HXC HWS HBX
          clear HTX HXB HDX HNX
          go_wp2_with fail
          refine HWS.o.mono ?_
          rintro e w5 ⟨⟨nn, rfl⟩, hw5⟩
          have HX5 := hq (HXC.o _ hw5)
          have x0 := HX5.o.at_ 0
          have HB5 := hq (HBX.o.trans hw5.2.1)
          have HW5 := hq (HW1.o.trans (HB5.o.mono HNW.o))
          have HD5 := hq hw5.1
          have hN5 : N ≤ w5.heap.size := Nat.le_trans HN1.o HB5.o.size
          clear HWS hw5 HXC HBX
          generalize wr.heap.size = g at *
          cases qs with
          | nil =>
            have HN : Hq (R = none) := hq (by rw [HE2.o, pickGo_none rfl]; rfl)
            have HPP := HP0.o HN.o _ HW5.o
            clear HE2 HN HP0 HP1
            go_wp2_with fail
            exact HPP
          | cons p qs =>
            obtain ⟨pb, pf, rfl, hpcell, hqi2⟩ := ints_cons hqi.o
            have HQI2 := hq hqi2
            have y0 : w5.cell? ⟨pb, pf, none⟩ = some (.int .i64 p) := (HW5.o.cell (cell_lt hpcell)).trans hpcell
            have y1 : w5.cell? ⟨pb, pf + 0, none⟩ = some (.int .i64 p) := y0
            rw [List.length_cons] at hql
            simp only [List.length_cons]
            clear hqi hqi2 hpcell
            by_cases hp0 : p < 0
            · have HN : Hq (R = none) := hq (by rw [HE2.o, pickGo_bad rfl (by omega)]; rfl)
              have HPP := HP0.o HN.o _ HW5.o
              clear HE2 HN HP0 HP1
              go_wp2_with fail
              exact HPP
            by_cases hp2 : 2 < p
            · have HN : Hq (R = none) := hq (by rw [HE2.o, pickGo_bad rfl (by omega)]; rfl)
              have HPP := HP0.o HN.o _ HW5.o
              clear HE2 HN HP0 HP1
              go_wp2_with fail
              exact HPP
            have hpz : p = 0 ∨ p = 1 ∨ p = 2 := by omega
            have hqc : qs.length + 1 ≤ qc := hql
            have HQI3 : Hq (IntsIn w (if qc = 1 then some ⟨pb, pf, none⟩ else some ⟨pb, pf + 1, none⟩) qs) := hq (by
              by_cases hq1 : qc = 1
              · have : qs = [] := List.eq_nil_of_length_eq_zero (by omega)
                subst this
                exact fun i hi => absurd hi (Nat.not_lt_zero i)
              · rw [if_neg hq1]; exact HQI2.o)
            rcases hpz with rfl | rfl | rfl
            · have hT : s0.length ≤ 268435456 := hsx.2.1
              have HN : Hq (R = (pickGo (l.drop (k + 1)) qs).map fun t => (acc ++ s0) ++ t) := hq (by rw [HE2.o, pickGo_hunk rfl (by decide), map_app]; rfl)
              have HWB := hq (wstring N N acc s0 w5 HD5.o (by omega) hN5)
              have hal2 : (acc ++ s0).length ≤ (k + 1) * 536870912 := by rw [List.length_append]; omega
              have y2 := HX5.o.at_ 2
              clear HE2 HP0 HP1 hsx HX5
              go_wp2_with fail
              refine HWB.o.mono ?_
              rintro e w6 ⟨⟨nn, rfl⟩, hw6⟩
              have HB6 := hq (HB5.o.trans hw6.2.1)
              have HD6 := hq hw6.1
              clear HWB hw6 HB5 HD5 HW5 x0 y0 y1 y2
              go_wp2_with fail
              go_roundw
              case rel => exact ⟨k + 1, acc ++ s0, qs, _, qc - 1, h, int_eq (by omega), rfl, by omega, by unfold maxLen; omega, HQI3, hal2, HD6, HN, HB6⟩
              case measure => simp [intOf]; omega
            · have hT : s1.length ≤ 268435456 := hsx.2.2.1
              have HN : Hq (R = (pickGo (l.drop (k + 1)) qs).map fun t => (acc ++ s1) ++ t) := hq (by rw [HE2.o, pickGo_hunk rfl (by decide), map_app]; rfl)
              have HWB := hq (wstring N N acc s1 w5 HD5.o (by omega) hN5)
              have hal2 : (acc ++ s1).length ≤ (k + 1) * 536870912 := by rw [List.length_append]; omega
              have y2 := HX5.o.at_ 3
              clear HE2 HP0 HP1 hsx HX5
              go_wp2_with fail
              refine HWB.o.mono ?_
              rintro e w6 ⟨⟨nn, rfl⟩, hw6⟩
              have HB6 := hq (HB5.o.trans hw6.2.1)
              have HD6 := hq hw6.1
              clear HWB hw6 HB5 HD5 HW5 x0 y0 y1 y2
              go_wp2_with fail
              go_roundw
              case rel => exact ⟨k + 1, acc ++ s1, qs, _, qc - 1, h, int_eq (by omega), rfl, by omega, by unfold maxLen; omega, HQI3, hal2, HD6, HN, HB6⟩
              case measure => simp [intOf]; omega
            · have hT : s2.length ≤ 268435456 := hsx.2.2.2
              have HN : Hq (R = (pickGo (l.drop (k + 1)) qs).map fun t => (acc ++ s2) ++ t) := hq (by rw [HE2.o, pickGo_hunk rfl (by decide), map_app]; rfl)
              have HWB := hq (wstring N N acc s2 w5 HD5.o (by omega) hN5)
              have hal2 : (acc ++ s2).length ≤ (k + 1) * 536870912 := by rw [List.length_append]; omega
              have y2 := HX5.o.at_ 4
              clear HE2 HP0 HP1 hsx HX5
              go_wp2_with fail
              refine HWB.o.mono ?_
              rintro e w6 ⟨⟨nn, rfl⟩, hw6⟩
              have HB6 := hq (HB5.o.trans hw6.2.1)
              have HD6 := hq hw6.1
              clear HWB hw6 HB5 HD5 HW5 x0 y0 y1 y2
              go_wp2_with fail
              go_roundw
              case rel => exact ⟨k + 1, acc ++ s2, qs, _, qc - 1, h, int_eq (by omega), rfl, by omega, by unfold maxLen; omega, HQI3, hal2, HD6, HN, HB6⟩
              case measure => simp [intOf]; omega
      · have h' : ¬ (k : Int) < (l.length : Int) := by omega
        have HW5 := hq (HW1.o.trans (hb.o.mono HNW.o))
        cases qs with
        | nil =>
          have HN : Hq (R = some acc) := hq (by rw [he.o, pickGo_end h]; show some (acc ++ []) = _; rw [List.append_nil])
          have HPP := hq (HP1.o _ HN.o)
          have HST := hq (Tryd.Builder_String_any_k N N acc wr hd.o hNr)
          clear he hd h HP0 HP1 HN
          go_wp2_with fail
          refine HST.o.mono ?_
          rintro e w5 ⟨rfl, _, hb5, _⟩
          have HB5 := hq (HW1.o.trans ((hb.o.trans hb5).mono HNW.o))
          clear HST hb5
          go_wp2_with fail
          exact HPP.o _ HB5.o
        | cons p qs =>
          have HN : Hq (R = none) := hq (by rw [he.o, pickGo_end h]; rfl)
          have HPP := HP0.o HN.o _ HW5.o
          simp only [List.length_cons]
          clear he hd h HP0 HP1 HN
          go_wp2_with fail
          exact HPP
end Go.Proofs.YtekihjffefokjaaDoor
