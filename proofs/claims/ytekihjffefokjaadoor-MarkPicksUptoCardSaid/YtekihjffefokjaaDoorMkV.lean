/-
  WALKS: mark.Decode.
-/
import Derived.Test.YtekihjffefokjaaDoorMkC
namespace Go.Proofs.YtekihjffefokjaaDoor
open Go.RowKit

theorem cut_line_any (s : Bs) (w : World) (hm : mx w) (hs : s.length < 4294967281) :
    Calls Tryd.prog 62 #[.string (st s), .string (st [10])] w fun e w' => (∃ b, e = .returned (.tuple #[.string (st (hdM s)), .string (st (bdM s)), .bool b])) ∧ ∃ n, w' = w.drewN n := by
  cases hc : cutL [10] s with
  | none =>
    refine (cut_no_any s [10] w hm hs (by decide) hc).mono ?_
    rintro e w' ⟨rfl, h⟩
    refine ⟨⟨false, ?_⟩, h⟩
    unfold hdM bdM
    rw [hc]
  | some p =>
    obtain ⟨a, b⟩ := p
    refine (cut_yes_any s [10] a b w hm hs (by decide) hc).mono ?_
    rintro e w' ⟨rfl, h⟩
    refine ⟨⟨true, ?_⟩, h⟩
    unfold hdM bdM
    rw [hc]
theorem prow_mono {w : World} {A B : Nat} {v : Value} {l : List MPart} (hAB : A ≤ B) (h : PRow w B v l) : PRow w A v l :=
  ⟨h.1, h.2.imp id fun ⟨g, cap, cur, h1, h2, h3⟩ => ⟨g, cap, cur, h1, Nat.le_trans hAB h2, h3⟩⟩
/-- what is found is what was told -/
def sameB (s : Bs) (l : List MPart) : Bool := rightB l && decide (encM l = s)
theorem endM_eq (s : Bs) (l : List MPart) : endM s l = if anyH l = true then (if sameB s l = true then some l else none) else none := by
  unfold endM sameB
  by_cases h1 : anyH l = true
  · rw [if_pos h1]
    by_cases h2 : rightB l = true
    · by_cases h3 : encM l = s
      · rw [if_pos ⟨h1, h2, h3⟩, h2, if_pos (by simp [h3])]
      · rw [if_neg (fun h => h3 h.2.2), h2, if_neg (by simp [h3])]
    · rw [if_neg (fun h => h2 h.2.1), if_neg (by simp [h2])]
  · rw [if_neg (fun h => h1 h.1), if_neg h1]

set_option maxHeartbeats 4000000 in
set_option maxRecDepth 1000000 in
theorem decode_any (s : Bs) (w : World) (hm : mx w) (hI : ∀ n : Nat, n ≤ 4294967290 → Itoas n w) (hE : ErrTwo w) (hs : s.length ≤ 16777216) :
    Calls Tryd.prog 33 #[.string (st s)] w (PartsPost (decM s) w) := by
  rw [← decF_eq s hs]
  have HM := hq hm
  have HI := hq hI
  have HE := hq hE
  have hhd := hd_le s
  have hbd := bd_le s
  have htr := Lib.trimPrefix_le (hdM s) headL
  have HCU := hq (fun W (hW : Below w.heap.size w W) => cut_line_any s W (mx_below hm hW (mx_lt hm)) (by omega))
  have HAT := hq (fun W (hW : Below w.heap.size w W) => atoi_any (Lib.trimPrefix (hdM s) headL) W (by omega) (hE.grow hW))
  have HNB := hq (fun W (hW : Below w.heap.size w W) (n : Nat) (hn : n ≤ 16777216) => parts_any (bdM s) n W (mx_below hm hW (mx_lt hm)) (by omega) (by omega))
  have HNo : Hq (numIn s = none → ∀ w', Below w.heap.size w w' → PartsPost (decF s) w (.returned (.tuple #[.slice none 0 0, .bool false])) w') := hq (fun h w' hw => by
    unfold decF
    rw [h]
    exact ⟨rfl, hw⟩)
  have HYes : Hq (∀ n, numIn s = some n → decF s = match partsM n ((bdM s).length + 1) (bdM s) with | none => none | some l => endM s l) := hq (fun n h => by
    unfold decF
    rw [h]; rfl)
  have HD : Hq (numIn s = if Lib.hasPrefix (hdM s) headL = true then (match atoiV (Lib.trimPrefix (hdM s) headL) with | some v => if 7 ≤ v ∧ v ≤ ((bdM s).length : Int) then some v.toNat else none | none => none) else none) := hq rfl
  clear hm hI hE
  generalize hT : Lib.trimPrefix (hdM s) headL = T at *
  generalize hP : Lib.hasPrefix (hdM s) headL = P at *
  have HT := hq hT
  have HP := hq hP
  clear hT hP
  go_enter Tryd.func33, Tryd.ntmps33
  go_wp2_with fail
  refine (HCU.o _ (Below.refl _ _)).mono ?_
  rintro e w1 ⟨⟨bb, rfl⟩, k, rfl⟩
  have HB1 := hq (below_drawn (Below.refl w.heap.size w) k)
  generalize w.drewN k = w1 at *
  clear HCU
  go_wp2_with fail
  refine (Tryd.strings_CutPrefix _ _ _).mono ?_
  rintro e w2 ⟨rfl, rfl⟩
  have eT : (⟨(Lib.trimPrefix (st (hdM s)).data.toList (⟨#[35, 109, 97, 114, 107, 115, 32]⟩ : ByteArray).data.toList).toArray⟩ : ByteArray) = st T := by rw [st_list, ← HT.o]; rfl
  have eP : Lib.hasPrefix (st (hdM s)).data.toList (⟨#[35, 109, 97, 114, 107, 115, 32]⟩ : ByteArray).data.toList = P := by rw [st_list, ← HP.o]; rfl
  rw [eT, eP]
  clear eT eP HT HP
  go_wp2_with fail
  refine (HAT.o _ HB1.o).mono ?_
  rintro e w2 ⟨he, hb2⟩
  have HB2 := hq (below_trans HB1.o hb2)
  clear HAT HB1 hb2
  cases hA : atoiV T with
  | none =>
    rw [hA] at he
    obtain ⟨v, N, rfl⟩ := he
    have HPP := HNo.o (by rw [HD.o, hA]; cases P <;> rfl) _ HB2.o
    clear HNo HYes HD HNB HI
    cases P with
    | false =>
      go_wp2_with fail
      go_ret2
      exact HPP
    | true =>
      go_wp2_with fail
      go_ret2
      exact HPP
  | some v =>
    rw [hA] at he HD
    simp only at he
    subst he
    cases P with
    | false =>
      have HPP := HNo.o (by rw [HD.o]; rfl) _ HB2.o
      clear HNo HYes HD HNB HI
      go_wp2_with fail
      go_ret2
      exact HPP
    | true =>
      by_cases h7 : v < 7
      · have HPP := HNo.o (by rw [HD.o, if_pos rfl]; exact if_neg (by omega)) _ HB2.o
        clear HNo HYes HD HNB HI
        go_wp2_with fail
        go_ret2
        exact HPP
      by_cases h8 : ((bdM s).length : Int) < v
      · have HPP := HNo.o (by rw [HD.o, if_pos rfl]; exact if_neg (by omega)) _ HB2.o
        clear HNo HYes HD HNB HI
        go_wp2_with fail
        go_ret2
        exact HPP
      obtain ⟨n, rfl⟩ : ∃ n : Nat, v = (n : Int) := ⟨v.toNat, by omega⟩
      have HY := hq (HYes.o n (by rw [HD.o, if_pos rfl]; exact if_pos (by omega)))
      clear HNo HYes HD
      generalize decF s = R at *
      go_wp2_with fail
      refine (HNB.o _ HB2.o n (by omega)).mono ?_
      rintro e w3 ⟨he, hb3⟩
      have HB3 := hq (below_trans HB2.o hb3)
      have hNs := hb3.size
      have hN2 := HB2.o.size
      clear HNB HB2
      cases hR : partsM n ((bdM s).length + 1) (bdM s) with
      | none =>
        rw [hR] at he HY
        simp only at he
        subst he
        clear HI
        go_wp2_with fail
        go_ret2
        exact ⟨by rw [HY.o]; rfl, HB3.o⟩
      | some l =>
        rw [hR] at he HY
        obtain ⟨u, rfl, hrow⟩ := he
        have hln := parts_lens n 16777216 _ _ _ (by omega) hR
        have HROW := hq hrow
        obtain ⟨o, cap, rfl, hlc, hcm, hin⟩ := prow_in hrow
        have HIN := hq hin
        have HY2 : Hq (R = endM s l) := HY
        have hHU := hunks_any o cap l
        clear hR hrow hin HY
        rw [endM_eq] at HY2
        cases hA : anyH l with
        | false =>
          rw [hA] at HY2 hHU
          clear HI
          have HHU := hq hHU
          clear hHU
          go_wp2_with fail
          refine (HHU.o _ hlc hcm HIN.o).mono ?_
          rintro e w4 ⟨rfl, hb4⟩
          go_wp2_with fail
          go_ret2
          exact ⟨by rw [HY2.o]; rfl, HB3.o.trans (hb4.mono HB3.o.size)⟩
        | true =>
          rw [hA, if_pos rfl] at HY2
          rw [hA] at hHU
          have HHU := hq hHU
          clear hHU
          have HEN := hq (fun W (hW : Below w.heap.size w W) (hi : PartsIn W o l) => encode_any o cap l W (mx_below HM.o hW (mx_lt HM.o)) (fun n hn => (HI.o n hn).grow hW) hlc hcm hi (fun x hx => lens_mono (by decide) (hln x hx)) (fun hr => enc_le 16777216 l (by decide) (by decide) hln (right_len hr)) (Nat.le_trans (widthM_le (by decide) hln) (by decide)))
          clear HI hln
          go_wp2_with fail
          refine (HHU.o _ hlc hcm HIN.o).mono ?_
          rintro e w4 ⟨rfl, hb4⟩
          have HB4 := hq (HB3.o.trans (hb4.mono HB3.o.size))
          have HIN4 := hq (HIN.o.grow hb4)
          have HROW4 := hq (HROW.o.grow hb4)
          clear HHU HB3 HIN HROW hb4
          go_wp2_with fail
          refine (HEN.o _ HB4.o HIN4.o).mono ?_
          rintro e w5 ⟨rfl, hb5⟩
          have HB5 := hq (HB4.o.trans (hb5.mono HB4.o.size))
          have HROW5 := hq (HROW4.o.grow hb5)
          clear HB4 HIN4 HROW4 hb5 HEN
          cases hr : rightB l with
          | false =>
            have HS : Hq (R = none) := hq (by rw [HY2.o]; exact if_neg (by unfold sameB; rw [hr]; simp))
            simp only [Bool.false_eq_true, if_false]
            go_wp2_with fail
            go_ret2
            exact ⟨by rw [HS.o]; rfl, HB5.o⟩
          | true =>
            simp only [if_true]
            by_cases hes : encM l = s
            · have HS : Hq (R = some l) := hq (by rw [HY2.o]; exact if_pos (by unfold sameB; rw [hr]; simp [hes]))
              rw [hes]
              go_wp2_with fail
              go_ret2
              exact ⟨by rw [HS.o]; exact ⟨_, rfl, prow_mono hN2 HROW5.o⟩, HB5.o⟩
            · have HS : Hq (R = none) := hq (by rw [HY2.o]; exact if_neg (by unfold sameB; rw [hr]; simp [hes]))
              have hse : (encM l == s) = false := beq_eq_false_iff_ne.2 hes
              go_wp2_with fail
              go_ret2
              exact ⟨by rw [HS.o]; rfl, HB5.o⟩
end Go.Proofs.YtekihjffefokjaaDoor
