/-
  PLAIN MATHEMATICS: the document's Compare of two right numbers is the program's.
-/
import Derived.Test.YtpgdmkhcdfhhaaaDoorNumRefB
namespace Go.Proofs.YtpgdmkhcdfhhaaaDoor
open Go.RowKit

theorem rcmp_tail (a b : Bs) (ha : a.all isDig = true) (hl : a.getLast? ≠ some 48) : ∀ f i, b.length ≤ i → i < a.length → a.length + b.length + 1 ≤ i + f → rcmp a b f i = 1
  | 0, i, _, _, h => by omega
  | f + 1, i, hb, hi, hf => by
    have hd := List.all_eq_true.1 ha a[i] (List.getElem_mem hi)
    have hx : 48 ≤ a[i].toNat := by unfold isDig at hd; simp at hd; exact hd.1
    rw [rcmp_succ, if_pos (.inl hi), List.getElem?_eq_getElem hi, List.getElem?_eq_none (by omega : b.length ≤ i)]
    show (if a[i].toNat < 48 then _ else if 48 < a[i].toNat then _ else _) = _
    rw [if_neg (by omega)]
    by_cases h : 48 < a[i].toNat
    · rw [if_pos h]
    · rw [if_neg h]
      by_cases hlast : i + 1 < a.length
      · exact rcmp_tail a b ha hl f (i + 1) (by omega) hlast (by omega)
      · refine absurd ?_ hl
        have e : a[i] = 48 := UInt8.toNat_inj.1 (by simp; omega)
        rw [List.getLast?_eq_getElem?, show a.length - 1 = i by omega, List.getElem?_eq_getElem hi, e]
theorem rcmp_swap (a b : Bs) : ∀ f i, rcmp b a f i = - rcmp a b f i
  | 0, _ => rfl
  | f + 1, i => by
    rw [rcmp_succ, rcmp_succ, rcmp_swap a b f (i + 1)]
    by_cases h : i < a.length ∨ i < b.length
    · rw [if_pos h, if_pos h.symm]
      repeat' split
      all_goals first | rfl | omega
    · rw [if_neg h, if_neg (fun x => h x.symm)]; rfl
theorem rcmp_eq (a b : Bs) (ha : a.all isDig = true) (hb : b.all isDig = true) (hla : a.getLast? ≠ some 48) (hlb : b.getLast? ≠ some 48) :
    ∀ f i, a.length + b.length + 1 ≤ i + f → i ≤ a.length + b.length → rcmp a b f i = Lib.compareBytes (a.drop i) (b.drop i)
  | 0, i, h, h2 => by omega
  | f + 1, i, hf, hi => by
    by_cases h1 : i < a.length
    · by_cases h2 : i < b.length
      · rw [rcmp_succ, if_pos (.inl h1), List.getElem?_eq_getElem h1, List.getElem?_eq_getElem h2, List.drop_eq_getElem_cons h1, List.drop_eq_getElem_cons h2]
        show (if a[i].toNat < b[i].toNat then _ else if b[i].toNat < a[i].toNat then _ else _) = if a[i] < b[i] then _ else if b[i] < a[i] then _ else _
        rw [rcmp_eq a b ha hb hla hlb f (i + 1) (by omega) (by omega)]
        simp only [UInt8.lt_iff_toNat_lt]
      · rw [rcmp_tail a b ha hla (f + 1) i (by omega) h1 hf, List.drop_eq_getElem_cons h1, List.drop_eq_nil_of_le (by omega : b.length ≤ i)]
        rfl
    · by_cases h2 : i < b.length
      · rw [← Int.neg_neg (rcmp a b (f + 1) i), ← rcmp_swap a b, rcmp_tail b a hb hlb (f + 1) i (by omega) h2 (by omega), List.drop_eq_getElem_cons h2, List.drop_eq_nil_of_le (by omega : a.length ≤ i)]
        rfl
      · rw [rcmp_succ, if_neg (by omega), List.drop_eq_nil_of_le (by omega : a.length ≤ i), List.drop_eq_nil_of_le (by omega : b.length ≤ i)]
        rfl
theorem compareBytes_swap : ∀ a b : Bs, Lib.compareBytes b a = - Lib.compareBytes a b := by
  intro a
  induction a with
  | nil => intro b; cases b <;> rfl
  | cons x a ih =>
    intro b
    cases b with
    | nil => rfl
    | cons y b =>
      show (if y < x then -1 else if x < y then 1 else Lib.compareBytes b a) = - (if x < y then -1 else if y < x then 1 else Lib.compareBytes a b)
      rw [ih b]
      simp only [UInt8.lt_iff_toNat_lt]
      repeat' split
      all_goals first | rfl | omega
theorem sizeM_swap (a b : Dec) : sizeM b a = - sizeM a b := by
  unfold sizeM
  rw [compareBytes_swap a.digits b.digits]
  repeat' split
  all_goals first | rfl | omega
/-- what is known of the digits of a right number -/
theorem right_dig {d : Dec} (h : d.right = true) (hz : d ≠ .zero) : d.digits ≠ [] ∧ d.digits.all isDig = true ∧ d.digits.getLast? ≠ some 48 := by
  unfold Dec.right at h
  rw [if_neg hz] at h
  split at h
  · cases h
  · rename_i hb
    split at h
    · cases h
    · rename_i hn
      unfold Dec.bad at hb
      unfold Dec.nought0 at hn
      simp only [not_or] at hb hn
      refine ⟨fun hh => ?_, by simpa using hb.2.2, hn.2⟩
      have := hb.1
      rw [hh] at this
      simp at this
theorem rsizeM_eq {a b : Dec} (ha : a.right = true) (hb : b.right = true) (hza : a ≠ .zero) (hzb : b ≠ .zero) : rsizeM a b = sizeM a b := by
  obtain ⟨a1, a2, a3⟩ := right_dig ha hza
  obtain ⟨b1, b2, b3⟩ := right_dig hb hzb
  unfold rsizeM sizeM
  rw [if_neg (by simp only [not_or]; exact ⟨a1, b1⟩)]
  by_cases h : (a.digits.length : Int) + a.exp = b.digits.length + b.exp
  · rw [if_pos h, if_neg (by omega), if_neg (by omega), rcmp_eq _ _ a2 b2 a3 b3 _ _ (by omega) (by omega), List.drop_zero, List.drop_zero]
  · rw [if_neg h]
    repeat' split
    all_goals first | rfl | omega
/-- what the document's Compare answers -/
def rcompareM (a b : Dec) : Int :=
  if (a.right && b.right) = true then
    if a.neg = b.neg then (if a.neg = true then rsizeM b a else rsizeM a b) else if a.neg = true then -1 else 1
  else if a.right = true then 1 else if b.right = true then -1 else 0
theorem zero_size (a : Dec) (h : a.digits ≠ []) : rsizeM .zero a = -1 ∧ rsizeM a .zero = 1 := by
  have : 0 < a.digits.length := List.length_pos_iff.2 h
  have e : Dec.zero.digits = [] := rfl
  unfold rsizeM
  rw [if_pos (.inl e), if_pos (.inr e), e]
  simp only [List.length_nil]
  omega
theorem rcompareM_eq (a b : Dec) : rcompareM a b = compareM a b := by
  unfold rcompareM compareM
  by_cases h : (a.right && b.right) = true
  · rw [if_pos h, if_pos h]
    rw [Bool.and_eq_true] at h
    obtain ⟨ha, hb⟩ := h
    by_cases hza : a = .zero
    · subst hza
      by_cases hzb : b = .zero
      · subst hzb; rfl
      · have hz := zero_size b (right_dig hb hzb).1
        unfold Dec.sign
        rw [if_pos rfl, if_neg hzb, hz.1, hz.2]
        have e : Dec.zero.neg = false := rfl
        rw [e]
        cases b.neg <;> simp
    · by_cases hzb : b = .zero
      · subst hzb
        have hz := zero_size a (right_dig ha hza).1
        unfold Dec.sign
        rw [if_pos rfl, if_neg hza, hz.1, hz.2]
        have e : Dec.zero.neg = false := rfl
        rw [e]
        cases a.neg <;> simp
      · rw [rsizeM_eq ha hb hza hzb, rsizeM_eq hb ha hzb hza, sizeM_swap a b]
        unfold Dec.sign
        rw [if_neg hza, if_neg hzb]
        cases a.neg <;> cases b.neg <;> simp
  · rw [if_neg h, if_neg h]
    unfold rankM
    cases hx : a.right <;> cases hy : b.right
    · rfl
    · rfl
    · rfl
    · rw [hx, hy] at h; exact absurd rfl h
end Go.Proofs.YtpgdmkhcdfhhaaaDoor
