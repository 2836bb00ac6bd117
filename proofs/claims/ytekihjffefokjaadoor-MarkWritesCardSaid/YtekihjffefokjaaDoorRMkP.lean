/-
  WALKS: the document's Pick of layer 25.
-/
import Derived.Test.YtekihjffefokjaaDoorRMkN
import Derived.Test.YtekihjffefokjaaDoorMkP
namespace Go.Proofs.YtekihjffefokjaaDoor
open Go.RowKit

set_option maxHeartbeats 4000000 in
set_option maxRecDepth 1000000 in
theorem rpick_any (o : Option Addr) (cap : Nat) (l : List MPart) (po : Option Addr) (pc : Nat) (ps : List Int) (w : World) (hl : l.length ≤ cap) (hc : cap ≤ maxLen) (hin : PartsIn w o l) (hs : ∀ x ∈ l, Lens 268435456 x) (hpl : ps.length ≤ pc) (hpc : pc ≤ maxLen) (hpi : IntsIn w po ps) :
    Calls Tryd.prog 27 #[.slice o l.length cap, .slice po ps.length pc] w (PickPost (pickB l ps) w) := by
  have HRT := hq (rmright_any o cap l w hl hc hin)
  have HHU := hq (fun W (hb : Below w.heap.size w W) => rhunks_any o cap l W hl hc (hin.grow hb))
  have HIN := hq hin
  have HPI := hq hpi
  have HS := hq hs
  have HP0 : Hq (pickB l ps = none → ∀ w', Below w.heap.size w w' → PickPost (pickB l ps) w (.returned (.tuple #[.string ⟨#[]⟩, .int .i64 1])) w') := hq (fun h w' hw => by rw [h]; exact ⟨rfl, hw⟩)
  have HP1 : Hq (∀ t, pickB l ps = some t → ∀ w', Below w.heap.size w w' → PickPost (pickB l ps) w (.returned (.tuple #[.string (st t), .int .i64 0])) w') := hq (fun t h w' hw => by rw [h]; exact ⟨rfl, hw⟩)
  unfold maxLen at hc hpc
  clear hin hpi hs
  cases hR : rightB l with
  | false =>
    rw [hR] at HRT
    have HP := hq (HP0.o (by unfold pickB; rw [hR]; rfl))
    clear hR HS HIN HPI HP0 HP1 HHU
    go_enter Tryd.func27, Tryd.ntmps27
    go_wp2_with fail
    refine HRT.o.mono ?_
    rintro e w1 ⟨rfl, hb1⟩
    clear HRT
    go_wp2_with fail
    go_ret2
    exact HP.o _ hb1
  | true =>
    rw [hR] at HRT
    have hll := right_len hR
    by_cases hn : nH l = ps.length
    · rw [hn] at HHU
      have HEN : Hq (pickB l ps = (pickGo (l.drop 0) (ps.drop 0)).map fun t => [] ++ t) := hq (by unfold pickB; rw [hR, if_pos rfl]; rw [List.drop_zero, List.drop_zero]; cases pickGo l ps <;> rfl)
      have HNH : Hq (nH (l.drop 0) + 0 = ps.length) := hq hn
      clear hR hn
      generalize pickB l ps = R at *
      generalize PickPost R w = PP at *
      go_enter Tryd.func27, Tryd.ntmps27
      go_wp2_with fail
      refine HRT.o.mono ?_
      rintro e w1 ⟨rfl, hb1⟩
      clear HRT
      go_wp2_with fail
      refine (HHU.o _ hb1).mono ?_
      rintro e w2 ⟨rfl, hb2⟩
      have HB2 := hq (below_trans hb1 hb2)
      clear HHU hb1 hb2
      go_wp2_with fail
      go_loopw [7, 8, 9] (fun sv kv iv wr => ∃ (i k : Nat) (acc : Bs), i ≤ l.length ∧ k ≤ ps.length ∧ iv = .int .i64 (i : Int) ∧ kv = .int .i64 (k : Int) ∧ sv = .string (st acc) ∧ acc.length ≤ i * 536870912 ∧ Hq (R = (pickGo (l.drop i) (ps.drop k)).map fun t => acc ++ t) ∧ Hq (nH (l.drop i) + k = ps.length) ∧ Hq (Below w.heap.size w wr)) (fun _ _ i _ => l.length - (intOf i).toNat)
      case atStart => exact ⟨0, 0, [], Nat.zero_le _, Nat.zero_le _, rfl, rfl, rfl, Nat.zero_le _, HEN, HNH, HB2⟩
      case round =>
        obtain ⟨i, k, acc, hi, hk, rfl, rfl, rfl, hal, he, hnh, hb⟩ := hrel
        clear HEN HNH HB2
        by_cases h : i < l.length
        · obtain ⟨b, f, rfl, hp⟩ := HIN.o i h
          obtain ⟨c0, c1, c2, c3, c4⟩ := hp.grow hb.o
          have hsx := HS.o l[i] (List.getElem_mem h)
          have HE2 : Hq (R = (pickGo (l[i] :: l.drop (i + 1)) (ps.drop k)).map fun t => acc ++ t) := hq (by rw [he.o, pickGo_step h])
          have HN2 : Hq ((if l[i].hunk = true then 1 else 0) + nH (l.drop (i + 1)) + k = ps.length) := hq (by rw [← nH_step h]; exact hnh.o)
          clear he hp HIN HS hnh
          generalize l[i] = x at *
          obtain ⟨xh, T, s0, s1, s2⟩ := x
          obtain ⟨z0, z1, z2, z3⟩ := hsx
          simp only at c0 c1 c2 c3 c4 z0 z1 z2 z3
          cases xh with
          | false =>
            have HN : Hq (R = (pickGo (l.drop (i + 1)) (ps.drop k)).map fun t => (acc ++ T) ++ t) := hq (by rw [HE2.o, pickGo_text rfl, map_app])
            have HNN : Hq (nH (l.drop (i + 1)) + k = ps.length) := hq (by have := HN2.o; simpa using this)
            have hal2 : (acc ++ T).length ≤ (i + 1) * 536870912 := by rw [List.length_append]; omega
            have HCT := hq (cat_st acc T)
            clear HE2 HN2 HP0 HP1
            go_wp2_with fail
            go_roundw
            case rel => exact ⟨i + 1, k, acc ++ T, h, hk, int_eq (by omega), rfl, congrArg Value.string HCT.o, hal2, HN, HNN, hb⟩
            case measure => simp [intOf]; omega
          | true =>
            have hkl : k < ps.length := by have := HN2.o; simp only [if_true] at this; omega
            obtain ⟨pb, pf, rfl, hpcell⟩ := HPI.o k hkl
            have HDR : Hq (ps.drop k = ps[k] :: ps.drop (k + 1)) := hq (List.drop_eq_getElem_cons hkl)
            have y0 : wr.cell? ⟨pb, pf + k, none⟩ = some (.int .i64 ps[k]) := (hb.o.cell (cell_lt hpcell)).trans hpcell
            have HNN : Hq (nH (l.drop (i + 1)) + (k + 1) = ps.length) := hq (by have := HN2.o; simp only [if_true] at this; omega)
            have hkz : (k : Int) < (ps.length : Int) := by omega
            have hiz : (i : Int) < (l.length : Int) := by omega
            clear hpcell HPI HN2
            generalize ps[k] = p at *
            by_cases hp0 : p < 0
            · have HN := hq (HP0.o (by rw [HE2.o, HDR.o, pickGo_bad rfl (by omega)]; rfl) _ hb.o)
              clear HE2 HDR HP0 HP1 HNN
              go_wp2_with fail
              exact HN.o
            by_cases hp2 : 2 < p
            · have HN := hq (HP0.o (by rw [HE2.o, HDR.o, pickGo_bad rfl (by omega)]; rfl) _ hb.o)
              clear HE2 HDR HP0 HP1 HNN
              go_wp2_with fail
              exact HN.o
            have hpz : p = 0 ∨ p = 1 ∨ p = 2 := by omega
            have HE3 : Hq (R = (pickGo (l.drop (i + 1)) (ps.drop (k + 1))).map fun t => (acc ++ sideM ⟨true, T, s0, s1, s2⟩ p) ++ t) := hq (by rw [HE2.o, HDR.o, pickGo_hunk rfl (by omega), map_app])
            clear HE2 HDR HP0 HP1
            rcases hpz with rfl | rfl | rfl
            · have hal2 : (acc ++ s0).length ≤ (i + 1) * 536870912 := by rw [List.length_append]; omega
              have HCT := hq (cat_st acc s0)
              go_wp2_with fail
              go_region
              go_wp2_with fail
              go_roundw
              case rel => exact ⟨i + 1, k + 1, acc ++ s0, h, hkl, int_eq (by omega), int_eq (by omega), congrArg Value.string HCT.o, hal2, HE3, HNN, hq hb.o.drew⟩
              case measure => simp [intOf]; omega
            · have hal2 : (acc ++ s1).length ≤ (i + 1) * 536870912 := by rw [List.length_append]; omega
              have HCT := hq (cat_st acc s1)
              go_wp2_with fail
              go_region
              go_wp2_with fail
              go_roundw
              case rel => exact ⟨i + 1, k + 1, acc ++ s1, h, hkl, int_eq (by omega), int_eq (by omega), congrArg Value.string HCT.o, hal2, HE3, HNN, hq hb.o.drew⟩
              case measure => simp [intOf]; omega
            · have hal2 : (acc ++ s2).length ≤ (i + 1) * 536870912 := by rw [List.length_append]; omega
              have HCT := hq (cat_st acc s2)
              go_wp2_with fail
              go_region
              go_wp2_with fail
              go_roundw
              case rel => exact ⟨i + 1, k + 1, acc ++ s2, h, hkl, int_eq (by omega), int_eq (by omega), congrArg Value.string HCT.o, hal2, HE3, HNN, hq hb.o.drew⟩
              case measure => simp [intOf]; omega
        · have h' : ¬ (i : Int) < (l.length : Int) := by omega
          have hd : l.drop i = [] := List.drop_eq_nil_of_le (by omega)
          have hpd : ps.drop k = [] := List.drop_eq_nil_of_le (by have := hnh.o; rw [hd] at this; change 0 + k = _ at this; omega)
          have HN := hq (HP1.o acc (by rw [he.o, hd, hpd]; show some (acc ++ []) = _; rw [List.append_nil]) _ hb.o)
          clear he hnh hd hpd HP0 HP1
          go_wp2_with fail
          exact HN.o
    · have HN := hq (HP0.o (by unfold pickB; rw [pickGo_len l ps hn]; split <;> rfl))
      have e1 : ((nH l : Int) != (ps.length : Int)) = true := bne_iff_ne.2 (by omega)
      have e2 : (nH l == ps.length) = false := beq_eq_false_iff_ne.2 hn
      clear hR HP0 HP1 HIN HPI HS
      go_enter Tryd.func27, Tryd.ntmps27
      go_wp2_with fail
      refine HRT.o.mono ?_
      rintro e w1 ⟨rfl, hb1⟩
      clear HRT
      go_wp2_with fail
      refine (HHU.o _ hb1).mono ?_
      rintro e w2 ⟨rfl, hb2⟩
      have HB2 := hq (below_trans hb1 hb2)
      clear HHU hb1 hb2
      go_wp2_with fail
      go_ret2
      exact HN.o _ HB2.o
end Go.Proofs.YtekihjffefokjaaDoor
