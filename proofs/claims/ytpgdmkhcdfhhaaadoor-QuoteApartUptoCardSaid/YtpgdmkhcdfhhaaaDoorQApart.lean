/-
  THE WALK OF THE LAW QuoteApart.
-/
import Derived.Test.YtpgdmkhcdfhhaaaDoorQEnds
namespace Go.Proofs.YtpgdmkhcdfhhaaaDoor
open Go.RowKit

theorem bytes_ne {a b : ByteArray} (h : ¬ a = b) : (a.toList == b.toList) = false := by
  rw [beq_eq_false_iff_ne, ByteArray.toList_eq, ByteArray.toList_eq]
  exact fun hh => h (ba_ext (Array.toList_inj.1 hh))
theorem bytes_st {a : ByteArray} {l : Bs} (h : ¬ a = st l) : (a.toList == l) = false := by
  rw [beq_eq_false_iff_ne, ByteArray.toList_eq]
  exact fun hh => h (by rw [← hh, st_of])
/-- what the loop needs of each byte of a text -/
def ByteOk (A : ByteArray) : Prop := ∀ i, i < A.size → 32 ≤ byt A i ∧ ((i = 0 ∧ byt A i = 34) ∨ (i ≠ 0 ∧ i = A.size - 1 ∧ byt A i = 34) ∨ (i ≠ 0 ∧ i ≠ A.size - 1 ∧ (byt A i ≠ 34 ∨ byt A (i - 1) = 92)))
theorem byteOk_quote (s : ByteArray) : ByteOk (st (quoteM s).1) := by
  intro i hi
  rw [st_size (quoteM s).1] at hi ⊢
  by_cases h : (valid s).2 = true
  · exact apart_byte s h i hi
  · rw [quoteM_no h] at hi; exact absurd hi (Nat.not_lt_zero _)

set_option maxHeartbeats 1000000 in
set_option maxRecDepth 1000000 in
theorem qapart_any (s t : ByteArray) (w : World) (hT : tabs w) (hs : s.size ≤ 1048576) (ht : t.size ≤ 1048576) :
    Calls Tryd.prog 12 #[.string s, .string t] w fun e w' => e = .returned (.bool true) ∧ Below w.heap.size w w' := by
  have HT := hq hT
  have HQ := hq fun W (hW : tabs W) => quote_any s W hW (by omega)
  have HQ2 := hq fun W (hW : tabs W) => quote_post t W hW (by omega)
  have HOK := hq (byteOk_quote s)
  have hql := quoteM_len s
  have hz : (st (quoteM s).1).size ≤ 8388608 := by rw [st_size (quoteM s).1]; omega
  have HAP : Hq ((quoteM s).2 = 0 → (quoteM t).2 = 0 → ((quoteM s).1 = (quoteM t).1 ↔ s = t)) := hq (fun h1 h2 => by
    have v1 : (valid s).2 = true := by
      cases h : (valid s).2 with
      | true => rfl
      | false => rw [quoteM_no (by rw [h]; decide)] at h1; cases h1
    have v2 : (valid t).2 = true := by
      cases h : (valid t).2 with
      | true => rfl
      | false => rw [quoteM_no (by rw [h]; decide)] at h2; cases h2
    exact ⟨quote_apart v1 v2, fun h => by rw [h]⟩)
  clear hT hql
  generalize quoteM s = q at *
  generalize quoteM t = p at *
  obtain ⟨q1, qe⟩ := q
  obtain ⟨p1, pe⟩ := p
  have HAP2 : Hq (qe = 0 → pe = 0 → (st q1 = st p1 ↔ s = t)) := hq (fun h1 h2 => ⟨fun h => (HAP.o h1 h2).1 (by have := congrArg (fun x => x.data.toList) h; simpa using this), fun h => congrArg st ((HAP.o h1 h2).2 h)⟩)
  clear HAP
  dsimp only at HOK hz HQ
  generalize st q1 = A at *
  go_enter Tryd.func12, Tryd.ntmps12
  go_wp2_with fail
  refine (qsmall_any _ HT.o).mono ?_
  rintro e w1 ⟨rfl, hb⟩
  have HT1 := hq (tabs_grow HT.o hb)
  go_wp2_with fail
  refine (HQ.o _ HT1.o).mono ?_
  rintro e w2 ⟨rfl, hb2⟩
  have HT2 := hq (tabs_grow HT1.o hb2)
  replace hb := below_trans hb hb2
  clear hb2 HQ HT HT1
  go_wp2_with fail
  refine (HQ2.o _ HT2.o).mono ?_
  rintro e w3 ⟨rfl, hb2⟩
  replace hb := below_trans hb hb2
  clear hb2 HQ2 HT2
  go_wp2_with fail
  go_loop [10] (fun i => ∃ k : Nat, k ≤ A.size ∧ i = .int .i64 (k : Int)) (fun i => A.size - (intOf i).toNat)
  case atStart => exact ⟨0, Nat.zero_le _, rfl⟩
  case round =>
    obtain ⟨k, hk, rfl⟩ := hrel
    by_cases hka : k < A.size
    · obtain ⟨h32, hcase⟩ := HOK.o k hka
      have y0 : ((A[k]'hka).toNat : Int) = (byt A k : Int) := by rw [byt_eq A k hka]
      have HY1 : Hq (∀ h : 1 ≤ k, ((A[k - 1]'(by omega)).toNat : Int) = (byt A (k - 1) : Int)) := hq (fun h => by rw [byt_eq A (k - 1) (by omega)])
      have g32 : ¬ byt A k < 32 := by omega
      generalize byt A (k - 1) = c1 at *
      generalize byt A k = c at *
      clear HAP2 HOK
      rcases hcase with ⟨h0, h34⟩ | ⟨h0, h1, h34⟩ | ⟨h0, h1, h2⟩
      · have e34 : ((c : Int) == 34) = true := by rw [h34]; rfl
        have e0 : ((k : Int) == 0) = true := by rw [h0]; rfl
        clear h34 h0 HY1 h32
        go_wp2_with fail
        go_round
        case rel => exact ⟨k + 1, by omega, int_eq (by omega)⟩
        case measure => simp [intOf]; omega
      · have e34 : ((c : Int) == 34) = true := by rw [h34]; rfl
        have e0 : ((k : Int) == 0) = false := beq_eq_false_iff_ne.2 (by omega)
        have e1 : ((k : Int) == (A.size : Int) - 1) = true := beq_iff_eq.2 (by omega)
        clear h34 h0 h1 HY1 h32
        go_wp2_with fail
        go_round
        case rel => exact ⟨k + 1, by omega, int_eq (by omega)⟩
        case measure => simp [intOf]; omega
      · have e0 : ((k : Int) == 0) = false := beq_eq_false_iff_ne.2 (by omega)
        have e1 : ((k : Int) == (A.size : Int) - 1) = false := beq_eq_false_iff_ne.2 (by omega)
        by_cases h34 : c = 34
        · have e34 : ((c : Int) == 34) = true := by rw [h34]; rfl
          have e92 : c1 = 92 := by rcases h2 with h | h <;> omega
          have f92 : ((c1 : Int) != 92) = false := by rw [e92]; rfl
          have hk1 : 1 ≤ k := by omega
          have y1 := HY1.o hk1
          have hz1 : ((k : Int) - 1).toNat = k - 1 := by omega
          clear h34 h0 h1 h2 e92 HY1 h32
          go_wp2_with fail
          go_round
          case rel => exact ⟨k + 1, by omega, int_eq (by omega)⟩
          case measure => simp [intOf]; omega
        · have e34 : ((c : Int) == 34) = false := beq_eq_false_iff_ne.2 (by omega)
          clear h34 h0 h1 h2 HY1 h32
          go_wp2_with fail
          go_round
          case rel => exact ⟨k + 1, by omega, int_eq (by omega)⟩
          case measure => simp [intOf]; omega
    · clear HOK
      by_cases h1 : qe = 0
      · have E1 : (qe != 0) = false := by rw [h1]; rfl
        by_cases h2 : pe = 0
        · have E2 : (pe != 0) = false := by rw [h2]; rfl
          have hap := HAP2.o h1 h2
          clear HAP2 h1 h2
          by_cases hst : s = t
          · have hA := hap.2 hst
            subst hst
            subst hA
            clear hap
            go_wp2_with fail
            go_ret
            exact ⟨rfl, hb⟩
          · have hA : ¬ (A = st p1) := fun h => hst (hap.1 h)
            clear hap
            have f1 := bytes_st hA
            have f2 := bytes_ne hst
            go_wp2_with fail
            go_ret
            exact ⟨rfl, hb⟩
        · have E2 : (pe != 0) = true := bne_iff_ne.2 h2
          clear HAP2 h1 h2
          go_wp2_with fail
          go_ret
          exact ⟨rfl, hb⟩
      · have E1 : (qe != 0) = true := bne_iff_ne.2 h1
        clear HAP2 h1
        go_wp2_with fail
        go_ret
        exact ⟨rfl, hb⟩
end Go.Proofs.YtpgdmkhcdfhhaaaDoor
