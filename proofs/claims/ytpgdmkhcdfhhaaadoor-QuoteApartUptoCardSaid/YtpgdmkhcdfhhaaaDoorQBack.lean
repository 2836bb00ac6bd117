/-
  THE WALKS OF THE LAWS QuoteBack, QuoteEnds.
-/
import Derived.Test.YtpgdmkhcdfhhaaaDoorQSmall
import Derived.Test.YtpgdmkhcdfhhaaaDoorUnqD
namespace Go.Proofs.YtpgdmkhcdfhhaaaDoor
open Go.RowKit

theorem quoteM_len (s : ByteArray) : (quoteM s).1.length ≤ 6 * s.size + 2 := by
  by_cases h : (valid s).2 = true
  · rw [quoteM_yes h]
    have := quoteB_len s.data.toList
    have e : s.data.toList.length = s.size := Array.length_toList
    rw [e] at this
    simp only [List.length_append, List.length_cons, List.length_nil, List.cons_append]
    omega
  · rw [quoteM_no h]; simp
theorem encAll_len (l : List Nat) : (encAll l).length ≤ 4 * l.length := by
  induction l with
  | nil => exact Nat.le_refl _
  | cons r l ih =>
    have := encB_len r
    show (encB r ++ encAll l).length ≤ _
    rw [List.length_append, List.length_cons]; omega
theorem scanGo_len (s : ByteArray) : ∀ (f p : Nat) (acc : List Nat), acc.length ≤ p → p ≤ s.size → (scanGo s f p acc).2.2.length ≤ s.size
  | 0, p, acc, h, hp => Nat.le_trans h hp
  | f + 1, p, acc, h, hp => by
    unfold scanGo
    by_cases hps : p < s.size
    · rw [if_pos hps]
      by_cases h34 : byt s p = 34
      · rw [if_pos h34]; exact Nat.le_trans h hp
      · rw [if_neg h34]
        cases hpm : partM s p with
        | none => exact Nat.le_trans h hp
        | some x =>
          obtain ⟨r, n⟩ := x
          have hbd := partM_bd hps hpm
          refine scanGo_len s f (p + n) (acc ++ [r]) ?_ hbd.2.2.2.1
          rw [List.length_append, List.length_singleton]; omega
    · rw [if_neg hps]; exact Nat.le_trans h hp
theorem unquote_len (t : ByteArray) : (unquoteM t).1.length ≤ 4 * t.size := by
  have h : (scanM t 0).2.2.length ≤ t.size := by
    unfold scanM
    split
    · rename_i h; exact scanGo_len t _ _ [] (Nat.zero_le _) h.1
    · exact Nat.zero_le _
  unfold unquoteM
  generalize scanM t 0 = x at *
  have h2 := encAll_len x.2.2
  simp only
  split
  · exact Nat.zero_le _
  · split
    · exact Nat.zero_le _
    · simp only; omega

/-- a text in quotes, unquoted -/
theorem unq_quoted (s : ByteArray) (hs : s.size ≤ 8388608) (h : (valid s).2 = true) (W : World) (hW : tabs W) :
    Calls Tryd.prog 32 #[.string (st (quoteM s).1)] W fun e w' => e = .returned (.tuple #[.string s, .int .i64 ((quoteM s).1.length : Int), .int .i64 0]) ∧ Below W.heap.size W w' := by
  have hl := quoteM_len s
  refine (unquote_any (st (quoteM s).1) W hW (by rw [st_size]; omega)).mono ?_
  rintro e w' ⟨rfl, hb⟩
  rw [unquote_quote s h]
  exact ⟨by rw [st_of], hb⟩
/-- a valid text, in quotes -/
theorem quote_good (s : ByteArray) (hs : s.size ≤ 8388608) (h : (valid s).2 = true) (W : World) (hW : tabs W) :
    Calls Tryd.prog 30 #[.string s] W fun e w' => e = .returned (.tuple #[.string (st (quoteM s).1), .int .i64 0]) ∧ Below W.heap.size W w' := by
  refine (quote_post s W hW (by omega)).mono ?_
  rintro e w' ⟨rfl, hb⟩
  have := quoteM_yes h
  exact ⟨by rw [this], hb⟩

set_option maxHeartbeats 2000000 in
set_option maxRecDepth 1000000 in
theorem qback_any (s t : ByteArray) (w : World) (hT : tabs w) (hs : s.size ≤ 1048576) (ht : t.size ≤ 1048576) :
    Calls Tryd.prog 11 #[.string s, .string t] w fun e w' => e = .returned (.bool true) ∧ Below w.heap.size w w' := by
  have HT := hq hT
  have HQ := hq fun W (hW : tabs W) => quote_post s W hW (by omega)
  have HV := hq fun W (hW : tabs W) => valid_any s W hW (by unfold maxLen; omega)
  have HUQ := hq (fun (h : (valid s).2 = true) W (hW : tabs W) => unq_quoted s (by omega) h W hW)
  have HY := hq (fun (h : (valid s).2 = true) => congrArg Prod.snd (@quoteM_yes s h))
  have HNO := hq (fun (h : ¬ (valid s).2 = true) => congrArg Prod.snd (@quoteM_no s h))
  have HUT := hq fun W (hW : tabs W) => unquote_any t W hW (by omega)
  have hul := unquote_len t
  have HOK := hq (unquote_ok t)
  have HBAD := hq (unquote_no t)
  have hz : (st (unquoteM t).1).size ≤ 8388608 := by rw [st_size]; omega
  have HQ2 := hq (fun (h : (valid (st (unquoteM t).1)).2 = true) W (hW : tabs W) => quote_good (st (unquoteM t).1) hz h W hW)
  have HUQ2 := hq (fun (h : (valid (st (unquoteM t).1)).2 = true) W (hW : tabs W) => unq_quoted (st (unquoteM t).1) hz h W hW)
  clear hT hul hz
  generalize quoteM (st (unquoteM t).1) = q2 at *
  generalize unquoteM t = u at *
  generalize valid s = V at *
  generalize quoteM s = q at *
  obtain ⟨q1, qe⟩ := q
  obtain ⟨V0, Vb⟩ := V
  obtain ⟨u1, un, ue⟩ := u
  obtain ⟨q21, q2e⟩ := q2
  have HEV : Hq ((Vb = true → (qe == 0) = true) ∧ (Vb = false → (qe == 0) = false)) := hq ⟨fun h => by
    have e : qe = 0 := HY.o h
    rw [e]; rfl, fun h => by
    have e : qe = 2 := HNO.o (by simp only; rw [h]; decide)
    rw [e]; rfl⟩
  clear HY HNO
  go_enter Tryd.func11, Tryd.ntmps11
  go_wp2_with fail
  refine (qsmall_any _ HT.o).mono ?_
  rintro e w1 ⟨rfl, hb⟩
  have HT1 := hq (tabs_grow HT.o hb)
  go_wp2_with fail
  refine (HQ.o _ HT1.o).mono ?_
  rintro e w2 ⟨rfl, hb2⟩
  have HT2 := hq (tabs_grow HT1.o hb2)
  replace hb := below_trans hb hb2
  clear hb2
  go_wp2_with fail
  refine (HV.o _ HT2.o).mono ?_
  rintro e w3 ⟨rfl, hb2⟩
  have HT3 := hq (tabs_grow HT2.o hb2)
  replace hb := below_trans hb hb2
  clear hb2 HQ HV HT HT1 HT2
  cases Vb
  all_goals
    first
    | (have E0 := HEV.o.2 rfl
       clear HEV HUQ
       go_wp2_with fail
       refine (HUT.o _ HT3.o).mono ?_
       rintro e w5 ⟨rfl, hb2⟩
       have HT5 := hq (tabs_grow HT3.o hb2)
       replace hb := below_trans hb hb2
       clear hb2 HUT HT3)
    | (have E0 := HEV.o.1 rfl
       have HUQ' := hq (HUQ.o rfl)
       clear HEV HUQ
       go_wp2_with fail
       refine (HUQ'.o _ HT3.o).mono ?_
       rintro e w4 ⟨rfl, hb2⟩
       have HT4 := hq (tabs_grow HT3.o hb2)
       replace hb := below_trans hb hb2
       have K2 : ((q1.length : Int) != ((st q1).size : Int)) = false := by rw [st_size]; exact bne_self_eq_false _
       have K3 : ((q1.length : Int) != (q1.length : Int)) = false := bne_self_eq_false _
       clear hb2 HUQ'
       go_wp2_with fail
       refine (HUT.o _ HT4.o).mono ?_
       rintro e w5 ⟨rfl, hb2⟩
       have HT5 := hq (tabs_grow HT4.o hb2)
       replace hb := below_trans hb hb2
       clear hb2 HUT HT3 HT4 K2 K3)
    by_cases hue : ue = 0
    · have E2 : (ue != 0) = false := by rw [hue]; rfl
      obtain ⟨k1, k2⟩ := HOK.o hue
      have HQ3 := hq (HQ2.o k2)
      have HUQ3 := hq (HUQ2.o k2)
      have K1 : ((un : Int) == (t.size : Int)) = true := by rw [show un = t.size from k1]; exact beq_self_eq_true _
      clear hue k1 k2 HOK HBAD HQ2 HUQ2
      go_wp2_with fail
      refine (HQ3.o _ HT5.o).mono ?_
      rintro e w6 ⟨rfl, hb2⟩
      have HT6 := hq (tabs_grow HT5.o hb2)
      replace hb := below_trans hb hb2
      clear hb2 HQ3
      go_wp2_with fail
      refine (HUQ3.o _ HT6.o).mono ?_
      rintro e w7 ⟨rfl, hb2⟩
      replace hb := below_trans hb hb2
      clear hb2 HUQ3
      go_wp2_with fail
      go_ret
      exact ⟨rfl, hb⟩
    · have E2 : (ue != 0) = true := bne_iff_ne.2 hue
      obtain ⟨k1, k2⟩ := HBAD.o hue
      have k1' : u1 = [] := k1
      have k2' : un ≤ t.size := k2
      clear hue k1 k2 HOK HBAD HQ2 HUQ2
      subst k1'
      go_wp2_with fail
      go_ret
      exact ⟨rfl, hb⟩
end Go.Proofs.YtpgdmkhcdfhhaaaDoor
