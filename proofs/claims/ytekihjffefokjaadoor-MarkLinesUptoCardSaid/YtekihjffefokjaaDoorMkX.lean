/-
  THE WALK OF THE LAW MarkBack.
-/
import Derived.Test.YtekihjffefokjaaDoorMkT
namespace Go.Proofs.YtekihjffefokjaaDoor
open Go.RowKit

theorem good_lens {l : List MPart} (h : GoodM l) : ∀ x ∈ l, Lens (encM l).length x := by
  have hc := cutL_len (enc_cut h.2)
  exact parts_lens _ _ _ _ _ (by omega) (parts_of h.1)

theorem enc_short {l : List MPart} (hl : ∀ x ∈ l, Lens 1024 x) (h60 : l.length ≤ 60) : (encM l).length ≤ 16777216 := by
  have hw := widthM_le (N := 1024) (by decide) hl
  have he := encGo_le (widthM l) 1024 l hl
  have hh := head_le (widthM l) (by omega)
  have hm : l.length * (4 * (widthM l + 2) + 4 * 1024) ≤ 60 * (4 * (widthM l + 2) + 4 * 1024) := Nat.mul_le_mul_right _ h60
  unfold encM
  rw [List.length_append]
  split
  · omega
  · simp only [List.length_nil]; omega

set_option maxHeartbeats 4000000 in
set_option maxRecDepth 1000000 in
theorem markBack_any (o : Option Addr) (cap : Nat) (l : List MPart) (s : Bs) (w : World) (h : MkT w) (hl : l.length ≤ cap) (hc : cap ≤ maxLen) (hin : PartsIn w o l) (hs : ∀ x ∈ l, Lens 1152921504606846976 x) :
    Calls Tryd.prog 10 #[.slice o l.length cap, .string (st s)] w fun e w' => e = .returned (.bool true) ∧ Below w.heap.size w w' := by
  have HT := hq h
  have HIN := hq hin
  have HS := hq hs
  have hc0 := hc
  unfold maxLen at hc
  clear h hin hs
  go_enter Tryd.func10, Tryd.ntmps10
  go_wp2_with fail
  refine (msmall_any w HT.o).mono ?_
  rintro e w1 ⟨rfl, hb1⟩
  have HB1 := hq hb1
  have HIN1 := hq (HIN.o.grow hb1)
  clear hb1
  go_wp2_with fail
  refine (mfew_any o cap l w1 hl hc0 HIN1.o HS.o).mono ?_
  rintro e w2 ⟨rfl, hb2⟩
  have HB2 := hq (below_trans HB1.o hb2)
  clear hb2 HB1 HIN1 HS
  cases hF : fewM l with
  | false =>
    go_wp2_with fail
    go_ret
    exact ⟨rfl, HB2.o⟩
  | true =>
    by_cases h12 : 4096 < s.length
    · go_wp2_with fail
      go_ret
      exact ⟨rfl, HB2.o⟩
    obtain ⟨h60, hln⟩ := few_in hF
    have HLN := hq hln
    have HEN := hq (encode_few 1024 o cap l w2 (HT.o.grow HB2.o) hl hc0 (HIN.o.grow HB2.o) (by decide) hln)
    have HRI := hq (fun W (hW : Below w.heap.size w W) => mright_any o cap l W hl hc0 (HIN.o.grow hW))
    clear hF hln
    unfold EncPost at HEN
    have hTL : (if rightB l = true then encM l else []).length ≤ 16777216 := by
      by_cases hr : rightB l = true
      · rw [if_pos hr]
        exact enc_short HLN.o h60
      · rw [if_neg hr]; exact Nat.zero_le _
    generalize hT : (if rightB l = true then encM l else []) = T at *
    generalize hE : (if rightB l = true then (0 : Int) else 1) = E at *
    generalize hr : rightB l = r at *
    have hE0 : (E == 0) = r := by rw [← hE]; cases r <;> rfl
    have HTT := hq hT
    have HEE := hq hE
    have HR := hq hr
    clear hT hE hr
    go_wp2_with fail
    refine HEN.o.mono ?_
    rintro e w3 ⟨rfl, hb3⟩
    have HB3 := hq (below_trans HB2.o hb3)
    clear hb3 HEN HB2
    go_wp2_with fail
    refine (HRI.o _ HB3.o).mono ?_
    rintro e w4 ⟨rfl, hb4⟩
    have HB4 := hq (below_trans HB3.o hb4)
    clear hb4 HRI HB3
    go_wp2_with fail
    go_loopw [9, 10] (fun c i wr => ∃ k n : Nat, k ≤ l.length ∧ i = .int .i64 (k : Int) ∧ c = .int .i64 (n : Int) ∧ Hq (nH l = n + nH (l.drop k)) ∧ n ≤ k ∧ Hq (Below w.heap.size w wr)) (fun _ i _ => l.length - (intOf i).toNat)
    case atStart => exact ⟨0, 0, Nat.zero_le _, rfl, rfl, hq (by simp), Nat.le_refl _, HB4⟩
    case round =>
      obtain ⟨k, n, hk, rfl, rfl, hnh, hnk, hb⟩ := hrel
      clear HB4
      by_cases h : k < l.length
      · obtain ⟨b, f, rfl, hp⟩ := HIN.o k h
        obtain ⟨c0, c1, c2, c3, c4⟩ := hp.grow hb.o
        have HN : Hq (nH l = (n + (if l[k].hunk = true then 1 else 0)) + nH (l.drop (k + 1))) := hq (by rw [hnh.o, nH_step h, Nat.add_assoc])
        clear hp HIN hnh HT HTT HEE HR HLN hE0
        generalize l[k] = x at *
        cases hx : x.hunk with
        | true =>
          rw [hx] at c0 HN
          simp only [if_true] at HN
          go_wp2_with fail
          go_roundw
          case rel => exact ⟨k + 1, n + 1, h, int_eq (by omega), int_eq (by omega), HN, by omega, hb⟩
          case measure => simp [intOf]; omega
        | false =>
          rw [hx] at c0 HN
          simp only [Bool.false_eq_true, if_false, Nat.add_zero] at HN
          go_wp2_with fail
          go_roundw
          case rel => exact ⟨k + 1, n, h, int_eq (by omega), rfl, HN, by omega, hb⟩
          case measure => simp [intOf]; omega
      · have h' : ¬ (k : Int) < (l.length : Int) := by omega
        have HNH : Hq (nH l = n) := hq (by rw [hnh.o, nH_end h]; rfl)
        clear hnh h
        cases r with
        | false =>
          clear HLN HTT HEE HR
          go_wp2_with fail
          refine (decode_any s wr (HT.o.grow hb.o).hm (HT.o.grow hb.o).hI (HT.o.grow hb.o).hE (by omega)).mono ?_
          rintro e w7 ⟨he, hb7⟩
          have HB7 := hq (below_trans hb.o hb7)
          clear hb7
          rcases decM_cases s with ⟨l2, hg2, he2, hd2⟩ | ⟨_, hd2⟩
          · rw [hd2] at he
            obtain ⟨v2, rfl, hrow2⟩ := he
            obtain ⟨o2, cap2, rfl, hlc2, hcm2, hin2⟩ := prow_in hrow2
            have HRW2 := hq hin2
            have HRR := hq ((rightB_iff l2).2 hg2.1)
            have hle2 := good_lens hg2
            rw [he2] at hle2
            have HLE := hq hle2
            have HE2 := hq he2
            clear hrow2 hin2 hg2 he2 hd2 hle2
            go_wp2_with fail
            refine (encode_few s.length o2 cap2 l2 w7 (HT.o.grow HB7.o) hlc2 hcm2 HRW2.o (by omega) HLE.o).mono ?_
            rintro e w8 ⟨rfl, hb8⟩
            rw [HRR.o, HE2.o]
            simp only [if_true]
            have HB8 := hq (below_trans HB7.o hb8)
            have HRW8 := hq (HRW2.o.grow hb8)
            clear hb8 HRW2 HB7
            go_wp2_with fail
            refine (mright_any o2 cap2 l2 w8 hlc2 hcm2 HRW8.o).mono ?_
            rintro e w9 ⟨rfl, hb9⟩
            rw [HRR.o]
            have HB9 := hq (below_trans HB8.o hb9)
            clear hb9 HB8 HRW8
            go_wp2_with fail
            go_ret
            exact ⟨rfl, HB9.o⟩
          · rw [hd2] at he
            simp only at he
            subst he
            clear hd2
            go_wp2_with fail
            go_ret
            exact ⟨rfl, HB7.o⟩
        | true =>
          by_cases hn0 : 0 < n
          · have hA : anyH l = true := by rw [anyH_nH, HNH.o]; exact decide_eq_true hn0
            have hTe : encM l = T := HTT.o
            have hDM := hq (decM_some ⟨(rightB_iff l).1 HR.o, hA⟩ hTe)
            have HIW := hq (HIN.o.grow hb.o)
            clear hA hTe HLN HTT HEE HR HNH
            go_wp2_with fail
            refine (decode_any T wr (HT.o.grow hb.o).hm (HT.o.grow hb.o).hI (HT.o.grow hb.o).hE hTL).mono ?_
            rintro e w5 ⟨he5, hb5⟩
            rw [hDM.o] at he5
            obtain ⟨v5, rfl, hrow5⟩ := he5
            obtain ⟨o5, cap5, rfl, hlc5, hcm5, hin5⟩ := prow_in hrow5
            have HB5 := hq (below_trans hb.o hb5)
            have HIW5 := hq (HIW.o.grow hb5)
            have HRW5 := hq hin5
            clear hb5 hrow5 hin5 HIW hDM
            go_wp2_with fail
            refine (same_yes o o5 cap cap5 l w5 hl hc0 HIW5.o hlc5 hcm5 HRW5.o).mono ?_
            rintro e w6 ⟨rfl, hb6⟩
            have HB6 := hq (below_trans HB5.o hb6)
            clear hb6 HB5 HIW5 HRW5
            go_wp2_with fail
            refine (decode_any s w6 (HT.o.grow HB6.o).hm (HT.o.grow HB6.o).hI (HT.o.grow HB6.o).hE (by omega)).mono ?_
            rintro e w7 ⟨he, hb7⟩
            have HB7 := hq (below_trans HB6.o hb7)
            clear hb7
            rcases decM_cases s with ⟨l2, hg2, he2, hd2⟩ | ⟨_, hd2⟩
            · rw [hd2] at he
              obtain ⟨v2, rfl, hrow2⟩ := he
              obtain ⟨o2, cap2, rfl, hlc2, hcm2, hin2⟩ := prow_in hrow2
              have HRW2 := hq hin2
              have HRR := hq ((rightB_iff l2).2 hg2.1)
              have hle2 := good_lens hg2
              rw [he2] at hle2
              have HLE := hq hle2
              have HE2 := hq he2
              clear hrow2 hin2 hg2 he2 hd2 hle2
              go_wp2_with fail
              refine (encode_few s.length o2 cap2 l2 w7 (HT.o.grow HB7.o) hlc2 hcm2 HRW2.o (by omega) HLE.o).mono ?_
              rintro e w8 ⟨rfl, hb8⟩
              rw [HRR.o, HE2.o]
              simp only [if_true]
              have HB8 := hq (below_trans HB7.o hb8)
              have HRW8 := hq (HRW2.o.grow hb8)
              clear hb8 HRW2 HB7
              go_wp2_with fail
              refine (mright_any o2 cap2 l2 w8 hlc2 hcm2 HRW8.o).mono ?_
              rintro e w9 ⟨rfl, hb9⟩
              rw [HRR.o]
              have HB9 := hq (below_trans HB8.o hb9)
              clear hb9 HB8 HRW8
              go_wp2_with fail
              go_ret
              exact ⟨rfl, HB9.o⟩
            · rw [hd2] at he
              simp only at he
              subst he
              clear hd2
              go_wp2_with fail
              go_ret
              exact ⟨rfl, HB7.o⟩
          · obtain rfl : n = 0 := by omega
            clear HLN HTT HEE HR
            go_wp2_with fail
            refine (decode_any s wr (HT.o.grow hb.o).hm (HT.o.grow hb.o).hI (HT.o.grow hb.o).hE (by omega)).mono ?_
            rintro e w7 ⟨he, hb7⟩
            have HB7 := hq (below_trans hb.o hb7)
            clear hb7
            rcases decM_cases s with ⟨l2, hg2, he2, hd2⟩ | ⟨_, hd2⟩
            · rw [hd2] at he
              obtain ⟨v2, rfl, hrow2⟩ := he
              obtain ⟨o2, cap2, rfl, hlc2, hcm2, hin2⟩ := prow_in hrow2
              have HRW2 := hq hin2
              have HRR := hq ((rightB_iff l2).2 hg2.1)
              have hle2 := good_lens hg2
              rw [he2] at hle2
              have HLE := hq hle2
              have HE2 := hq he2
              clear hrow2 hin2 hg2 he2 hd2 hle2
              go_wp2_with fail
              refine (encode_few s.length o2 cap2 l2 w7 (HT.o.grow HB7.o) hlc2 hcm2 HRW2.o (by omega) HLE.o).mono ?_
              rintro e w8 ⟨rfl, hb8⟩
              rw [HRR.o, HE2.o]
              simp only [if_true]
              have HB8 := hq (below_trans HB7.o hb8)
              have HRW8 := hq (HRW2.o.grow hb8)
              clear hb8 HRW2 HB7
              go_wp2_with fail
              refine (mright_any o2 cap2 l2 w8 hlc2 hcm2 HRW8.o).mono ?_
              rintro e w9 ⟨rfl, hb9⟩
              rw [HRR.o]
              have HB9 := hq (below_trans HB8.o hb9)
              clear hb9 HB8 HRW8
              go_wp2_with fail
              go_ret
              exact ⟨rfl, HB9.o⟩
            · rw [hd2] at he
              simp only at he
              subst he
              clear hd2
              go_wp2_with fail
              go_ret
              exact ⟨rfl, HB7.o⟩
end Go.Proofs.YtekihjffefokjaaDoor
