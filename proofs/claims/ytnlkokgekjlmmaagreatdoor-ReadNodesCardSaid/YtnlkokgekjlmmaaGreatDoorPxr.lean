/-
  WALKS: the document's Right and Index of paths.
-/
import Derived.Test.YtnlkokgekjlmmaaGreatDoorPx1
import Derived.Test.YtnlkokgekjlmmaaGreatDoorRefV
namespace Go.Proofs.YtnlkokgekjlmmaaGreatDoor
open Go.RowKit
set_option maxHeartbeats 2000000 in
set_option maxRecDepth 1000000 in
theorem rright7_any (p : SRow) (W : World) (hp : p.ok W) (hm : Room p.l) : Calls Tryz.prog 76 #[p.v] W (BoolPost (pgoodB p.l) W) := by
 obtain ⟨o, cap, l⟩ := p
 have HPO := hq hp
 have hpc := hp.le
 have hpm := hp.cp
 unfold maxLen at hpm
 have HVL := hq (fun x (hx : x ∈ l) WW => rvalid_any (st x) WW (by rw [st_size]; exact hm x hx))
 have HP : Hq (∀ b W', pgoodB l = b → Below W.heap.size W W' → BoolPost (pgoodB l) W (.returned (.bool b)) W') := hq (fun b W' h1 h2 => ⟨by rw [h1], h2⟩)
 have HM : Hq (pgoodB l = (decide (l.length ≤ 64) && l.all fun x => (valid (st x)).2)) := hq rfl
 simp only at hpc hpm ⊢
 unfold SRow.v
 generalize BoolPost (pgoodB l) W = PP at *
 clear hp hm
 simp only
 go_enter Tryz.func76, Tryz.ntmps76
 go_wp2_with fail
 go_loopg [3, 4, 5, 12] l.length (fun gk u _ _ _ wr => ∃ i : Nat, i + gk ≤ l.length ∧ l.length ≤ i + gk ∧ u = .int .i64 (i : Int) ∧ Hq ((l.take i).all (fun x => (valid (st x)).2) = true) ∧ Hq (Below W.heap.size W wr))
 case atStart => exact ⟨0, by omega, by omega, rfl, hq (by simp), hq (Below.refl _ _)⟩
 case round =>
  obtain ⟨i, hi1, hi2, rfl, hall, hb⟩ := hrel
  by_cases hil : i < l.length
  · have hiz : (i : Int) < (l.length : Int) := by omega
    obtain ⟨b, f, rfl, c0⟩ := strs_at HPO.o.rd hb.o hil
    simp only at c0
    have HC := hq (HVL.o l[i] (List.getElem_mem hil))
    have HT := hq (all_take (fun x => (valid (st x)).2) hil)
    have HBD := hq (@all_bad _ l i (fun x => (valid (st x)).2) hil)
    generalize l[i] = x at *
    generalize hV : valid (st x) = V at *
    obtain ⟨vn, vb⟩ := V
    simp only at HC HT HBD
    clear HVL hV HPO
    cases vb with
    | true =>
      clear HP HBD
      go_wp2_with fail
      refine (HC.o _).mono ?_
      rintro e W2 ⟨rfl, rfl⟩
      clear HC
      go_wp2_with fail
      go_roundg (gk - 1)
      case measure => omega
      case rel => exact ⟨i + 1, by omega, by omega, int_eq (by omega), hq (by rw [HT.o, hall.o]; rfl), hb⟩
    | false =>
      have HV := hq (HP.o false wr (by rw [HM.o, HBD.o rfl, Bool.and_false]) hb.o)
      clear HP HBD HT hb
      go_wp2_with fail
      refine (HC.o _).mono ?_
      rintro e W2 ⟨rfl, rfl⟩
      clear HC
      go_wp2_with fail
      first | exact HV.o | (go_ret; exact HV.o)
  · have hiz : ¬ (i : Int) < (l.length : Int) := by omega
    have hall2 := hall.o
    rw [List.take_of_length_le (by omega)] at hall2
    by_cases h64 : l.length ≤ 64
    · have h64z : (l.length : Int) ≤ 64 := by omega
      have hd : decide ((l.length : Int) ≤ 64) = true := decide_eq_true h64z
      have HV := hq (HP.o true wr (by rw [HM.o, hall2, decide_eq_true h64]; rfl) hb.o)
      clear HP HVL HPO hall hb hall2
      go_wp2_with fail
      first | exact HV.o | (go_ret; exact HV.o)
    · have h64z : ¬ (l.length : Int) ≤ 64 := by omega
      have hd : decide ((l.length : Int) ≤ 64) = false := decide_eq_false h64z
      have HV := hq (HP.o false wr (by rw [HM.o, decide_eq_false h64]; rfl) hb.o)
      clear HP HVL HPO hall hb hall2
      go_wp2_with fail
      first | exact HV.o | (go_ret; exact HV.o)
/-! ### Index -/
theorem decFrom_step {s : ByteArray} {k v : Nat} (hk : k < s.size) (hd : 48 ≤ byt s k ∧ byt s k ≤ 57) : Lib.decFrom v (s.data.toList.drop k) = Lib.decFrom (v * 10 + (byt s k - 48)) (s.data.toList.drop (k + 1)) := by
 have hl : k < s.data.toList.length := by rw [Array.length_toList]; exact hk
 rw [List.drop_eq_getElem_cons hl]
 have h1 := bytT s k hl
 simp only [Lib.decFrom, Lib.digitVal]
 rw [h1, if_pos hd]
theorem pow_bd {v k : Nat} (h : v < 10 ^ k) (hk : k ≤ 8) : v ≤ 99999999 := by
 have := Nat.pow_le_pow_right (show 0 < 10 by omega) hk
 have e : (10 : Nat) ^ 8 = 100000000 := by decide
 omega
theorem pow_next {v k d : Nat} (h : v < 10 ^ k) (hd : d < 10) : v * 10 + d < 10 ^ (k + 1) := by rw [Nat.pow_succ]; omega
set_option maxHeartbeats 2000000 in
set_option maxRecDepth 1000000 in
theorem rindex_any (s : ByteArray) (w : World) (hs : s.size ≤ maxLen) : Calls Tryz.prog 132 #[.string s] w (IdxPost s.data.toList w) := by
 unfold maxLen at hs
 have hsl : s.data.toList.length = s.size := by rw [Array.length_toList]; rfl
 have HNO : Hq (indexM s.data.toList = none → IdxPost s.data.toList w (.returned (.tuple #[.int .i64 0, .bool false])) w) := hq (fun h => ⟨by rw [h]; rfl, Below.refl _ _⟩)
 have HYES : Hq (∀ n, indexM s.data.toList = some n → IdxPost s.data.toList w (.returned (.tuple #[.int .i64 ((n : Nat) : Int), .bool true])) w) := hq (fun n h => ⟨by rw [h]; rfl, Below.refl _ _⟩)
 generalize IdxPost s.data.toList w = PP at *
 go_enter Tryz.func132, Tryz.ntmps132
 by_cases h0 : s.data.toList = []
 · have hz : (s.size : Int) < 1 := by have : s.size = 0 := by rw [← hsl, h0]; rfl
                                      omega
   have HV := hq (HNO.o (by unfold indexM; rw [if_pos (.inl h0)]))
   clear HNO HYES h0
   go_wp2_with fail
   exact HV.o
 have hz : 0 < s.size := by rw [← hsl]; exact List.length_pos_iff.2 h0
 have hz1 : ¬ (s.size : Int) < 1 := by omega
 by_cases h9 : 9 < s.size
 · have hz9 : (9 : Int) < (s.size : Int) := by omega
   have HV := hq (HNO.o (by unfold indexM; rw [if_pos (.inr (.inl (by rw [hsl]; exact h9)))]))
   clear HNO HYES h0
   go_wp2_with fail
   exact HV.o
 have hz9 : ¬ (9 : Int) < (s.size : Int) := by omega
 have HNC := hq (fun (k : Nat) (hk : k < s.size) (h : ¬ (48 ≤ byt s k ∧ byt s k ≤ 57)) => index_no h0 (by rw [hsl]; exact hk) h)
 have hy0 : ((s[0]'hz).toNat : Int) = (byt s 0 : Int) := by rw [byt_eq s 0 hz]
 by_cases h1 : s.data.toList.head? = some 48 ∧ s.data.toList ≠ [48]
 · have HV := hq (HNO.o (by unfold indexM; rw [if_pos (.inr (.inr h1))]))
   have e3 : ((s[0].toNat : Nat) : Int) = 48 := (head_byt hz).1 h1.1
   have hz2 : (1 : Int) < (s.size : Int) := by
    by_cases e : s.size = 1
    · exfalso
      refine h1.2 ?_
      cases hh : s.data.toList with
      | nil => exact absurd hh h0
      | cons b r =>
        rw [hh] at hsl
        have hr : r = [] := List.eq_nil_of_length_eq_zero (by simp at hsl; omega)
        have hb := h1.1
        rw [hh] at hb
        rw [hr, show b = 48 by simpa using hb]
    · omega
   have hc0 : (byt s 0 : Int) = 48 := by rw [← hy0]; exact e3
   generalize byt s 0 = c0 at *
   have hc1 : ((c0 : Int) == 48) = true := beq_iff_eq.2 (by omega)
   clear HNO HYES HNC h1 h0 e3
   go_wp2_with fail
   exact HV.o
 have HEX : Hq (indexM s.data.toList = Lib.decFrom 0 s.data.toList) := hq (by
  unfold indexM Lib.decNat
  rw [if_neg (not_or.2 ⟨h0, not_or.2 ⟨by omega, h1⟩⟩), if_neg (by rw [List.isEmpty_iff]; exact h0)])
 have e2 : (1 : Int) < (s.size : Int) → ((byt s 0 : Int) == 48) = false := fun hh => beq_eq_false_iff_ne.2 (fun e => h1 ⟨(head_byt hz).2 (by rw [hy0]; exact e), fun e5 => by
  rw [e5] at hsl; simp at hsl; omega⟩)
 have e3 : (¬ (1 : Int) < (s.size : Int)) ∨ ((1 : Int) < (s.size : Int) ∧ ((byt s 0 : Int) == 48) = false) := by
  by_cases h : (1 : Int) < (s.size : Int)
  · exact .inr ⟨h, e2 h⟩
  · exact .inl h
 clear h1 h0 e2
 generalize byt s 0 = c0 at hy0 e3
 rcases e3 with e3 | ⟨e3, e4⟩
 all_goals
  go_wp2_with fail
  go_loop [4, 5] (fun n i => ∃ k v : Nat, k ≤ s.size ∧ i = .int .i64 (k : Int) ∧ n = .int .i64 (v : Int) ∧ v < 10 ^ k ∧ Hq (indexM s.data.toList = Lib.decFrom v (s.data.toList.drop k))) (fun _ i => s.size - (intOf i).toNat)
  case atStart => exact ⟨0, 0, Nat.zero_le _, rfl, rfl, by decide, hq (by rw [HEX.o]; rfl)⟩
  case round =>
   obtain ⟨k, v, hk, rfl, rfl, hv, hix⟩ := hrel
   by_cases h : k < s.size
   · have hkz : (k : Int) < (s.size : Int) := by omega
     have hy : ((s[k]'h).toNat : Int) = (byt s k : Int) := by rw [byt_eq s k h]
     have hx := byt_lt s k
     have hvb := pow_bd hv (by omega)
     by_cases hdig : 48 ≤ byt s k ∧ byt s k ≤ 57
     · have HST := hq (hix.o.trans (decFrom_step h hdig))
       have HPN := hq (pow_next (d := byt s k - 48) hv (by omega))
       have hwr := dig_sub hdig.1 hdig.2
       clear hix HNC HNO HYES HEX hv
       generalize byt s k = c at *
       obtain ⟨hd1, hd2⟩ := hdig
       have hcz1 : ¬ (c : Int) < 48 := by omega
       have hcz2 : ¬ (57 : Int) < (c : Int) := by omega
       go_wp2_with fail
       go_round
       case rel => exact ⟨k + 1, v * 10 + (c - 48), by omega, int_eq (by omega), int_eq (by omega), HPN.o, HST⟩
       case measure => simp [intOf]; omega
     · have HV := hq (HNO.o (HNC.o k h hdig))
       clear hix HNC HNO HYES HEX hv
       generalize byt s k = c at *
       have hcz : (c : Int) < 48 ∨ (¬ (c : Int) < 48 ∧ (57 : Int) < (c : Int)) := by omega
       rcases hcz with hcz | ⟨hcz, hcz2⟩
       · go_wp2_with fail
         exact HV.o
       · go_wp2_with fail
         exact HV.o
   · obtain rfl : k = s.size := by omega
     have hkz : ¬ (s.size : Int) < (s.size : Int) := by omega
     have h2 := hix.o
     rw [List.drop_of_length_le (by omega)] at h2
     have HV := hq (HYES.o v h2)
     clear hix HNC HNO HYES HEX hv h2
     go_wp2_with fail
     exact HV.o
end Go.Proofs.YtnlkokgekjlmmaaGreatDoor
