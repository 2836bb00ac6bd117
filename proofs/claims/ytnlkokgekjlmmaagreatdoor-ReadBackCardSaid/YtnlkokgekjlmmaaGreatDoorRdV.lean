/-
  PLAIN MATHEMATICS: the tokens of what is written: numbers, words, strings.
-/
import Derived.Test.YtnlkokgekjlmmaaGreatDoorRdT
namespace Go.Proofs.YtnlkokgekjlmmaaGreatDoor
open Go.RowKit
def numD (c : UInt8) : Bool := isNum c.toNat
theorem dig_num {c : UInt8} (h : isDig c = true) : numD c = true := by
  unfold isDig at h
  unfold numD isNum
  simp only [Bool.and_eq_true, decide_eq_true_eq] at h
  simp [h.1, h.2]
theorem digs_num {l : Bs} (h : l.all isDig = true) : l.all numD = true := by
  rw [List.all_eq_true] at *
  exact fun x hx => dig_num (h x hx)
theorem fin_num {p : Parts} {d : Bool} {r : Bs} {q : Parts} (h : splitFin p d r = some q) : r.all numD = true := by
  unfold splitFin at h
  split at h
  · rename_i h1
    exact digs_num h1.2
  · cases h
theorem exp_num {p : Parts} {l : Bs} {q : Parts} (h : splitExp p l = some q) : l.all numD = true := by
  cases l with
  | nil => rfl
  | cons c r =>
    unfold splitExp at h
    rw [List.all_cons, Bool.and_eq_true]
    by_cases h1 : c = 45
    · subst h1
      exact ⟨by decide, fin_num h⟩
    · rw [if_neg (by simpa using h1)] at h
      by_cases h2 : c = 43
      · subst h2
        exact ⟨by decide, fin_num h⟩
      · rw [if_neg (by simpa using h2)] at h
        have := fin_num h
        rwa [List.all_cons, Bool.and_eq_true] at this
theorem tail_num {p : Parts} {l : Bs} {q : Parts} (h : splitTail p l = some q) : l.all numD = true := by
  cases l with
  | nil => rfl
  | cons c r =>
    unfold splitTail at h
    simp only at h
    split at h
    · rename_i hc
      rw [List.all_cons, Bool.and_eq_true]
      exact ⟨by rcases hc with rfl | rfl <;> decide, exp_num h⟩
    · cases h
theorem takeDrop_num {r : Bs} (h : (r.dropWhile isDig).all numD = true) : r.all numD = true := by
  have e := List.takeWhile_append_dropWhile (p := isDig) (l := r)
  have h2 : (r.takeWhile isDig ++ r.dropWhile isDig).all numD = true := by rw [List.all_append, h, digs_num (takeWhile_all r)]; rfl
  rwa [e] at h2
theorem frac_num {p : Parts} {l : Bs} {q : Parts} (h : splitFrac p l = some q) : l.all numD = true := by
  cases l with
  | nil => rfl
  | cons c r =>
    by_cases hc : c = 46
    · subst hc
      have h2 : (if r.takeWhile isDig = [] then none else splitTail { p with frac := r.takeWhile isDig } (r.dropWhile isDig)) = some q := h
      split at h2
      · cases h2
      · rw [List.all_cons, Bool.and_eq_true]
        exact ⟨by decide, takeDrop_num (tail_num h2)⟩
    · have h2 : splitTail p (c :: r) = some q := by
        unfold splitFrac at h
        split at h
        · rename_i heq
          injection heq with h3
          exact absurd h3 hc
        · exact h
      exact tail_num h2
theorem whole_num {n : Bool} {l : Bs} {q : Parts} (h : splitWhole n l = some q) : l.all numD = true ∧ ∃ c r, l = c :: r ∧ isDig c = true := by
  unfold splitWhole at h
  simp only at h
  split at h
  · cases h
  · rename_i hw
    refine ⟨takeDrop_num (frac_num h), ?_⟩
    cases l with
    | nil => exact absurd (.inl rfl) hw
    | cons c r =>
      refine ⟨c, r, rfl, ?_⟩
      cases hc : isDig c with
      | true => rfl
      | false => exact absurd (.inl (by simp [hc])) hw
theorem split_num {l : Bs} {q : Parts} (h : splitM l = some q) : l.all numD = true ∧ ∃ c r, l = c :: r ∧ (c = 45 ∨ isDig c = true) := by
  unfold splitM at h
  split at h
  · rename_i h1
    cases l with
    | nil => cases h1
    | cons c r =>
      have hc : c = 45 := by simpa using h1
      subst hc
      obtain ⟨h2, _⟩ := whole_num h
      exact ⟨by rw [List.all_cons, Bool.and_eq_true]; exact ⟨by decide, h2⟩, _, _, rfl, .inl rfl⟩
  · obtain ⟨h2, c, r, h3, h4⟩ := whole_num h
    exact ⟨h2, c, r, h3, .inr h4⟩
theorem len_ba (s : ByteArray) : s.data.toList.length = s.size := Array.length_toList
theorem ext_all (s : ByteArray) : s.extract 0 s.size = s := by
  have hz : (s.extract 0 s.size).size = s.size := by rw [ByteArray.size_extract]; omega
  refine ba_same (List.ext_getElem ((len_ba _).trans (hz.trans (len_ba s).symm)) (fun i h1 h2 => ?_))
  have e1 := bytT (s.extract 0 s.size) i h1
  have hi : i < s.size := (len_ba s) ▸ h2
  rw [byt_sub s 0 s.size i (Nat.le_refl _) (by omega), Nat.zero_add, ← bytT s i h2] at e1
  exact UInt8.toNat_inj.1 e1
theorem sub_all (s : ByteArray) : sub s 0 s.size = s.data.toList := by unfold sub; rw [ext_all]
theorem number_one {s : ByteArray} (h : (parseM s.data.toList).2 = 0) : 0 < s.size ∧ oneM s 0 = (9, s.size, 0) := by
  cases hs : splitM s.data.toList with
  | none => unfold parseM at h; rw [hs] at h; exact absurd h (show ¬ ((2 : Int) = 0) by decide)
  | some q =>
    obtain ⟨ha, c, r, hl, hc⟩ := split_num hs
    have hz : s.size = r.length + 1 := by
      have : s.data.toList.length = s.size := Array.length_toList
      rw [hl, List.length_cons] at this
      omega
    have hb : ∀ j, j < s.size → isNum (byt s j) = true := fun j hj => by
      have hj2 : j < s.data.toList.length := by rw [Array.length_toList]; exact hj
      rw [← bytT s j hj2]
      exact List.all_eq_true.1 ha _ (List.getElem_mem hj2)
    have hr : runTo s isNum 0 = s.size := by
      have := runTo_all s isNum s.size 0 (by omega) (fun j hj => by rw [Nat.zero_add]; exact hb j hj)
      rw [Nat.zero_add] at this
      rw [this]
      exact runTo_end (Nat.le_refl _)
    have h0 : byt s 0 = c.toNat := by
      have hj2 : 0 < s.data.toList.length := by rw [hl]; exact Nat.succ_pos _
      rw [← bytT s 0 hj2]
      simp [hl]
    have hc' : byt s 0 = 45 ∨ 48 ≤ byt s 0 ∧ byt s 0 ≤ 57 := by
      rw [h0]
      rcases hc with rfl | hc
      · left; rfl
      · right
        unfold isDig at hc
        simpa only [Bool.and_eq_true, decide_eq_true_eq] using hc
    have hs0 : signM (byt s 0) = 0 := by
      unfold signM
      repeat' split
      all_goals omega
    have hbl : ¬ isBlank (byt s 0) = true := by
      unfold isBlank
      simp only [Bool.or_eq_true, beq_iff_eq]
      omega
    refine ⟨by omega, ?_⟩
    unfold oneM
    simp only
    rw [if_neg (by rw [hs0]; simp), if_neg hbl, if_neg (by omega), if_pos hc', hr, sub_all, if_neg (by rw [h]; simp)]
def Term (T : ByteArray) (b : Nat) : Prop := b = T.size ∨ (isNum (byt T b) = false ∧ isLet (byt T b) = false)
theorem one_at {T : ByteArray} {a k : Nat} {l : Bs} (h : oneM (st l) 0 = (k, l.length, 0)) (hk : k ≠ 1) (h0 : 0 < l.length) (hat : At T a l) (ha : a ≤ T.size) (ht : Term T (a + l.length)) : oneM T a = (k, a + l.length, 0) := by
  have hle := hat.le ha
  have := oneM_same2 (s := st l) (t := T) (p := 0) (q := a) (by rw [st_size]; exact h0) h hk (by omega) (fun j hj => by
    rw [hat.get j (by omega), Nat.zero_add, ← bytT (st l) j (by rw [st_list]; omega)]) (by
    rw [Nat.sub_zero]
    exact ht.imp id .inl)
  simpa using this
theorem at_sub {T : ByteArray} {a : Nat} {l : Bs} (h : At T a l) (ha : a ≤ T.size) : T.extract a (a + l.length) = st l := by
  have hle := h.le ha
  have hz : (T.extract a (a + l.length)).size = l.length := by rw [ByteArray.size_extract]; omega
  have hl : (st l).data.toList = l := st_list l
  refine ba_same (Eq.trans ?_ hl.symm)
  refine List.ext_getElem ((len_ba _).trans hz) (fun i h1 h2 => ?_)
  have e1 := bytT (T.extract a (a + l.length)) i h1
  rw [byt_sub T a (a + l.length) i hle (by omega), h.get i h2] at e1
  exact UInt8.toNat_inj.1 e1
theorem one_null {T : ByteArray} {a : Nat} (hat : At T a [110, 117, 108, 108]) (ha : a ≤ T.size) (ht : Term T (a + 4)) : oneM T a = (12, a + 4, 0) :=
  one_at (l := [110, 117, 108, 108]) (by decide +kernel) (by decide) (by decide) hat ha ht
theorem one_true {T : ByteArray} {a : Nat} (hat : At T a [116, 114, 117, 101]) (ha : a ≤ T.size) (ht : Term T (a + 4)) : oneM T a = (10, a + 4, 0) :=
  one_at (l := [116, 114, 117, 101]) (by decide +kernel) (by decide) (by decide) hat ha ht
theorem one_false {T : ByteArray} {a : Nat} (hat : At T a [102, 97, 108, 115, 101]) (ha : a ≤ T.size) (ht : Term T (a + 5)) : oneM T a = (11, a + 5, 0) :=
  one_at (l := [102, 97, 108, 115, 101]) (by decide +kernel) (by decide) (by decide) hat ha ht
theorem one_num {T : ByteArray} {a : Nat} {l : Bs} (h : (parseM l).2 = 0) (hat : At T a l) (ha : a ≤ T.size) (ht : Term T (a + l.length)) : 0 < l.length ∧ oneM T a = (9, a + l.length, 0) := by
  have e : (st l).data.toList = l := st_list l
  obtain ⟨h1, h2⟩ := number_one (s := st l) (by rw [e]; exact h)
  rw [st_size] at h1 h2
  exact ⟨h1, one_at h2 (by decide) h1 hat ha ht⟩
theorem one_str {T : ByteArray} {a : Nat} {t : Bs} (h : (valid (st t)).2 = true) (hat : At T a (quoteM (st t)).1) (_ha : a ≤ T.size) : oneM T a = (8, a + (quoteM (st t)).1.length, 0) := by
  obtain ⟨rs, _, h2⟩ := scan_at (st t) T a h hat
  have hb : byt T a = 34 := by
    rw [quoteM_yes h] at hat
    exact (At.cons (x := 34) (l := quoteB (st t).data.toList ++ [34]) hat).2.1
  unfold oneM
  simp only
  rw [hb, h2]
  rfl
theorem str_key {T : ByteArray} {a : Nat} {t : Bs} (h : (valid (st t)).2 = true) (hat : At T a (quoteM (st t)).1) (ha : a ≤ T.size) : keyTx T a (a + (quoteM (st t)).1.length) = t := by
  unfold keyTx
  rw [at_sub hat ha, unquote_quote (st t) h]
theorem quote_pos {t : Bs} (h : (valid (st t)).2 = true) : 2 ≤ (quoteM (st t)).1.length := by
  rw [quoteM_yes h]
  simp only [List.cons_append, List.length_cons, List.length_append, List.length_nil]
  omega
/-! ### a text of a number, of a string, of two -/
theorem str_leaf {T : ByteArray} {a : Nat} {t : Bs} (key : Nat × Nat) (h : (valid (st t)).2 = true) (hat : At T a (quoteM (st t)).1) (ha : a ≤ T.size) : LeafOk T (leafN (8, a, a + (quoteM (st t)).1.length) key) ∧ leafV T (leafN (8, a, a + (quoteM (st t)).1.length) key) = .mk 4 t [] [] := by
  have hp := quote_pos h
  have hle := hat.le ha
  refine ⟨⟨by show a < a + _; omega, hle, 8, one_str h hat ha, rfl, .inr (.inr (.inr rfl))⟩, ?_⟩
  show Vl.mk 4 (keyTx T a (a + (quoteM (st t)).1.length)) [] [] = _
  rw [str_key h hat ha]
end Go.Proofs.YtnlkokgekjlmmaaGreatDoor
