/-
  THE WALKS OF THE LAWS QuoteEnds, QuoteApart.
-/
import Derived.Test.YtpgdmkhcdfhhaaaDoorQBack
namespace Go.Proofs.YtpgdmkhcdfhhaaaDoor
open Go.RowKit

theorem app_list (a b : ByteArray) : (a ++ b).data.toList = a.data.toList ++ b.data.toList := by simp
theorem app_size (a b : ByteArray) : (a ++ b).size = a.size + b.size := by simp [ByteArray.size_append]
theorem end_around (front s back : ByteArray) (h : (valid s).2 = true) : endM (front ++ st (quoteM s).1 ++ back) (front.size : Int) = (front.size + (quoteM s).1.length, 0) := by
  have hl : front.data.toList.length = front.size := Array.length_toList
  have hat : At (front ++ st (quoteM s).1 ++ back) front.size (quoteM s).1 := ⟨back.data.toList, by
    rw [app_list, app_list, st_list, List.append_assoc, ← hl, List.drop_left]⟩
  obtain ⟨rs, _, h2⟩ := scan_at s _ front.size h hat
  unfold endM
  rw [if_neg (by rw [app_size, app_size]; omega), show ((front.size : Int)).toNat = front.size by omega, h2]

set_option maxHeartbeats 1000000 in
set_option maxRecDepth 1000000 in
theorem qends_any (front s back : ByteArray) (w : World) (hT : tabs w) (hf : front.size ≤ 1048576) (hs : s.size ≤ 1048576) (hbk : back.size ≤ 1048576) :
    Calls Tryd.prog 13 #[.string front, .string s, .string back] w fun e w' => e = .returned (.bool true) ∧ Below w.heap.size w w' := by
  have HT := hq hT
  have HQ := hq fun W (hW : tabs W) => quote_post s W hW (by omega)
  have hql := quoteM_len s
  have hz1 : front.size + (st (quoteM s).1).size ≤ 8388608 := by rw [st_size (quoteM s).1]; omega
  have hz2 : (front ++ st (quoteM s).1).size + back.size ≤ 9437184 := by rw [app_size]; omega
  have hz3 : (front ++ st (quoteM s).1 ++ back).size ≤ 9437184 := by rw [app_size]; omega
  have HE := hq (fun (h : (valid s).2 = true) W (hW : tabs W) => by
    have h1 := end_any (front ++ st (quoteM s).1 ++ back) (front.size : Int) W hW (by omega) (by omega)
    rw [end_around front s back h] at h1
    exact h1)
  have HY := hq (fun (h : (valid s).2 = true) => congrArg Prod.snd (@quoteM_yes s h))
  have HNO := hq (fun (h : ¬ (valid s).2 = true) => congrArg Prod.snd (@quoteM_no s h))
  have hsz : ((st (quoteM s).1).size : Int) = ((quoteM s).1.length : Int) := by rw [st_size]
  clear hT hz3
  generalize valid s = V at *
  generalize quoteM s = q at *
  obtain ⟨q1, qe⟩ := q
  obtain ⟨V0, Vb⟩ := V
  simp only at hz1 hz2 hsz
  go_enter Tryd.func13, Tryd.ntmps13
  go_wp2_with fail
  refine (qsmall_any _ HT.o).mono ?_
  rintro e w1 ⟨rfl, hb⟩
  have HT1 := hq (tabs_grow HT.o hb)
  go_wp2_with fail
  refine (HQ.o _ HT1.o).mono ?_
  rintro e w2 ⟨rfl, hb2⟩
  have HT2 := hq (tabs_grow HT1.o hb2)
  replace hb := below_trans hb hb2
  clear hb2 HQ HT HT1
  cases Vb with
  | false =>
    have e : qe = 2 := HNO.o (by simp)
    have E0 : (qe != 0) = true := by rw [e]; rfl
    clear HY HNO HE e
    go_wp2_with fail
    go_ret
    exact ⟨rfl, hb⟩
  | true =>
    have e : qe = 0 := HY.o rfl
    have E0 : (qe != 0) = false := by rw [e]; rfl
    have HE2 := hq (HE.o rfl)
    have HSZ := hq hsz
    have K : (((front.size : Nat) : Int) + ((q1.length : Nat) : Int) == ((front.size : Nat) : Int) + ((q1.length : Nat) : Int)) = true := beq_self_eq_true _
    clear HY HNO HE e hsz
    go_wp2_with fail
    refine (HE2.o _ HT2.o).mono ?_
    rintro e w3 ⟨rfl, hb2⟩
    replace hb := below_trans hb hb2
    clear hb2 HE2
    have hsz := HSZ.o
    go_wp2_with fail
    go_ret
    exact ⟨rfl, hb⟩

/-- a 34 has a 92 ahead of it, and no byte is below 32 -/
def Fine (m : Bs) : Prop := ∀ i (h : i < m.length), 32 ≤ (m[i]'h).toNat ∧ ((m[i]'h).toNat = 34 → ∃ h1 : 1 ≤ i, (m[i - 1]'(by omega)).toNat = 92)
theorem Fine.app {a b : Bs} (ha : Fine a) (hb : Fine b) : Fine (a ++ b) := by
  intro i h
  by_cases hi : i < a.length
  · rw [List.getElem_append_left hi]
    obtain ⟨h1, h2⟩ := ha i hi
    refine ⟨h1, fun h3 => ?_⟩
    obtain ⟨k1, k2⟩ := h2 h3
    exact ⟨k1, by rw [List.getElem_append_left (by omega)]; exact k2⟩
  · have hb' := hb (i - a.length) (by rw [List.length_append] at h; omega)
    rw [List.getElem_append_right (by omega)]
    refine ⟨hb'.1, fun h3 => ?_⟩
    obtain ⟨k1, k2⟩ := hb'.2 h3
    refine ⟨by omega, ?_⟩
    rw [List.getElem_append_right (by omega)]
    simpa only [show i - 1 - a.length = i - a.length - 1 by omega] using k2
def fineB (m : Bs) : Bool := (List.range m.length).all fun i => decide (32 ≤ (m.getD i 0).toNat) && (decide ((m.getD i 0).toNat ≠ 34) || (decide (1 ≤ i) && decide ((m.getD (i - 1) 0).toNat = 92)))
theorem Fine.of {m : Bs} (h : fineB m = true) : Fine m := by
  intro i hi
  unfold fineB at h
  rw [List.all_eq_true] at h
  have h1 := h i (List.mem_range.2 hi)
  have e : m.getD i 0 = m[i] := by simp [List.getD, hi]
  rw [e] at h1
  simp only [Bool.and_eq_true, Bool.or_eq_true, decide_eq_true_eq] at h1
  refine ⟨h1.1, fun h3 => ?_⟩
  rcases h1.2 with h4 | ⟨h4, h5⟩
  · exact absurd h3 h4
  · refine ⟨h4, ?_⟩
    have e2 : m.getD (i - 1) 0 = m[i - 1] := by simp [List.getD, show i - 1 < m.length by omega]
    rwa [e2] at h5
theorem fine_qb (c : UInt8) : Fine (qb c) := by
  have key : ∀ n : Nat, n < 256 → fineB (qb (UInt8.ofNat n)) = true := by decide +kernel
  have := key c.toNat c.toNat_lt
  rw [UInt8.ofNat_toNat] at this
  exact Fine.of this
theorem fine_quoteB : ∀ l : Bs, Fine (quoteB l)
  | [] => fun i h => absurd h (by simp [quoteB])
  | c :: l => (fine_qb c).app (fine_quoteB l)
/-- what the law asks of each byte -/
theorem apart_byte (s : ByteArray) (h : (valid s).2 = true) (i : Nat) (hi : i < (quoteM s).1.length) :
    32 ≤ byt (st (quoteM s).1) i ∧ ((i = 0 ∧ byt (st (quoteM s).1) i = 34) ∨ (i ≠ 0 ∧ i = (quoteM s).1.length - 1 ∧ byt (st (quoteM s).1) i = 34) ∨ (i ≠ 0 ∧ i ≠ (quoteM s).1.length - 1 ∧ (byt (st (quoteM s).1) i ≠ 34 ∨ byt (st (quoteM s).1) (i - 1) = 92))) := by
  have hb : ∀ j (hj : j < (quoteM s).1.length), byt (st (quoteM s).1) j = ((quoteM s).1[j]'hj).toNat := fun j hj => by
    rw [byt_eq _ j (by rw [st_size]; exact hj)]
    rfl
  rw [hb i hi]
  have hf := fine_quoteB s.data.toList
  have hb2 : ∀ hj : i - 1 < (quoteM s).1.length, byt (st (quoteM s).1) (i - 1) = ((quoteM s).1[i - 1]'hj).toNat := hb (i - 1)
  have hy := congrArg Prod.fst (quoteM_yes h)
  simp only at hy
  generalize byt (st (quoteM s).1) (i - 1) = z at *
  generalize (quoteM s).1 = a at *
  subst hy
  simp only [List.length_append, List.length_cons, List.length_nil, List.cons_append] at hi hb2 ⊢
  by_cases h0 : i = 0
  · subst h0
    exact ⟨show 32 ≤ (34 : UInt8).toNat by decide, .inl ⟨rfl, rfl⟩⟩
  · obtain ⟨j, rfl⟩ : ∃ j, i = j + 1 := ⟨i - 1, by omega⟩
    simp only [List.getElem_cons_succ] at *
    by_cases hj : j < (quoteB s.data.toList).length
    · rw [List.getElem_append_left hj]
      obtain ⟨h1, h2⟩ := hf j hj
      refine ⟨h1, .inr (.inr ⟨h0, by omega, ?_⟩)⟩
      by_cases h34 : ((quoteB s.data.toList)[j]).toNat = 34
      · right
        obtain ⟨k1, k2⟩ := h2 h34
        rw [hb2 (by omega)]
        obtain ⟨m, rfl⟩ : ∃ m, j = m + 1 := ⟨j - 1, by omega⟩
        simp only [Nat.add_sub_cancel, List.getElem_cons_succ]
        rw [List.getElem_append_left (by omega)]
        simpa using k2
      · exact .inl h34
    · rw [List.getElem_append_right (by omega)]
      have : j = (quoteB s.data.toList).length := by omega
      subst this
      simp
end Go.Proofs.YtpgdmkhcdfhhaaaDoor
