/-
  PLAIN MATHEMATICS: the tokens of what is written: numbers, words, strings.
-/
import Derived.Test.YtnlkokgekjlmmaaGreatDoorRdT
namespace Go.Proofs.YtnlkokgekjlmmaaGreatDoor
open Go.RowKit

def numD (c : UInt8) : Bool := isNum c.toNat
theorem dig_num {c : UInt8} (h : isDig c = true) : numD c = true := by
  unfold isDig at h
  unfold numD isNum
  simp only [Bool.and_eq_true, decide_eq_true_eq] at h
  simp [h.1, h.2]
theorem digs_num {l : Bs} (h : l.all isDig = true) : l.all numD = true := by
  rw [List.all_eq_true] at *
  exact fun x hx => dig_num (h x hx)
theorem fin_num {p : Parts} {d : Bool} {r : Bs} {q : Parts} (h : splitFin p d r = some q) : r.all numD = true := by
  unfold splitFin at h
  split at h
  · rename_i h1
    exact digs_num h1.2
  · cases h
theorem exp_num {p : Parts} {l : Bs} {q : Parts} (h : splitExp p l = some q) : l.all numD = true := by
  cases l with
  | nil => rfl
  | cons c r =>
    unfold splitExp at h
    rw [List.all_cons, Bool.and_eq_true]
    by_cases h1 : c = 45
    · subst h1
      exact ⟨by decide, fin_num h⟩
    · rw [if_neg (by simpa using h1)] at h
      by_cases h2 : c = 43
      · subst h2
        exact ⟨by decide, fin_num h⟩
      · rw [if_neg (by simpa using h2)] at h
        have := fin_num h
        rwa [List.all_cons, Bool.and_eq_true] at this
theorem tail_num {p : Parts} {l : Bs} {q : Parts} (h : splitTail p l = some q) : l.all numD = true := by
  cases l with
  | nil => rfl
  | cons c r =>
    unfold splitTail at h
    simp only at h
    split at h
    · rename_i hc
      rw [List.all_cons, Bool.and_eq_true]
      exact ⟨by rcases hc with rfl | rfl <;> decide, exp_num h⟩
    · cases h
theorem takeDrop_num {r : Bs} (h : (r.dropWhile isDig).all numD = true) : r.all numD = true := by
  have e := List.takeWhile_append_dropWhile (p := isDig) (l := r)
  have h2 : (r.takeWhile isDig ++ r.dropWhile isDig).all numD = true := by rw [List.all_append, h, digs_num (takeWhile_all r)]; rfl
  rwa [e] at h2
theorem frac_num {p : Parts} {l : Bs} {q : Parts} (h : splitFrac p l = some q) : l.all numD = true := by
  cases l with
  | nil => rfl
  | cons c r =>
    by_cases hc : c = 46
    · subst hc
      have h2 : (if r.takeWhile isDig = [] then none else splitTail { p with frac := r.takeWhile isDig } (r.dropWhile isDig)) = some q := h
      split at h2
      · cases h2
      · rw [List.all_cons, Bool.and_eq_true]
        exact ⟨by decide, takeDrop_num (tail_num h2)⟩
    · have h2 : splitTail p (c :: r) = some q := by
        unfold splitFrac at h
        split at h
        · rename_i heq
          injection heq with h3
          exact absurd h3 hc
        · exact h
      exact tail_num h2
theorem whole_num {n : Bool} {l : Bs} {q : Parts} (h : splitWhole n l = some q) : l.all numD = true ∧ ∃ c r, l = c :: r ∧ isDig c = true := by
  unfold splitWhole at h
  simp only at h
  split at h
  · cases h
  · rename_i hw
    refine ⟨takeDrop_num (frac_num h), ?_⟩
    cases l with
    | nil => exact absurd (.inl rfl) hw
    | cons c r =>
      refine ⟨c, r, rfl, ?_⟩
      cases hc : isDig c with
      | true => rfl
      | false => exact absurd (.inl (by simp [hc])) hw
theorem split_num {l : Bs} {q : Parts} (h : splitM l = some q) : l.all numD = true ∧ ∃ c r, l = c :: r ∧ (c = 45 ∨ isDig c = true) := by
  unfold splitM at h
  split at h
  · rename_i h1
    cases l with
    | nil => cases h1
    | cons c r =>
      have hc : c = 45 := by simpa using h1
      subst hc
      obtain ⟨h2, _⟩ := whole_num h
      exact ⟨by rw [List.all_cons, Bool.and_eq_true]; exact ⟨by decide, h2⟩, _, _, rfl, .inl rfl⟩
  · obtain ⟨h2, c, r, h3, h4⟩ := whole_num h
    exact ⟨h2, c, r, h3, .inr h4⟩
theorem len_ba (s : ByteArray) : s.data.toList.length = s.size := Array.length_toList
theorem ext_all (s : ByteArray) : s.extract 0 s.size = s := by
  have hz : (s.extract 0 s.size).size = s.size := by rw [ByteArray.size_extract]; omega
  refine ba_same (List.ext_getElem ((len_ba _).trans (hz.trans (len_ba s).symm)) (fun i h1 h2 => ?_))
  have e1 := bytT (s.extract 0 s.size) i h1
  have hi : i < s.size := (len_ba s) ▸ h2
  rw [byt_sub s 0 s.size i (Nat.le_refl _) (by omega), Nat.zero_add, ← bytT s i h2] at e1
  exact UInt8.toNat_inj.1 e1
theorem sub_all (s : ByteArray) : sub s 0 s.size = s.data.toList := by unfold sub; rw [ext_all]
/-- a number is one token -/
theorem number_one {s : ByteArray} (h : (parseM s.data.toList).2 = 0) : 0 < s.size ∧ oneM s 0 = (9, s.size, 0) := by
  cases hs : splitM s.data.toList with
  | none => unfold parseM at h; rw [hs] at h; exact absurd h (show ¬ ((2 : Int) = 0) by decide)
  | some q =>
    obtain ⟨ha, c, r, hl, hc⟩ := split_num hs
    have hz : s.size = r.length + 1 := by
      have : s.data.toList.length = s.size := Array.length_toList
      rw [hl, List.length_cons] at this
      omega
    have hb : ∀ j, j < s.size → isNum (byt s j) = true := fun j hj => by
      have hj2 : j < s.data.toList.length := by rw [Array.length_toList]; exact hj
      rw [← bytT s j hj2]
      exact List.all_eq_true.1 ha _ (List.getElem_mem hj2)
    have hr : runTo s isNum 0 = s.size := by
      have := runTo_all s isNum s.size 0 (by omega) (fun j hj => by rw [Nat.zero_add]; exact hb j hj)
      rw [Nat.zero_add] at this
      rw [this]
      exact runTo_end (Nat.le_refl _)
    have h0 : byt s 0 = c.toNat := by
      have hj2 : 0 < s.data.toList.length := by rw [hl]; exact Nat.succ_pos _
      rw [← bytT s 0 hj2]
      simp [hl]
    have hc' : byt s 0 = 45 ∨ 48 ≤ byt s 0 ∧ byt s 0 ≤ 57 := by
      rw [h0]
      rcases hc with rfl | hc
      · left; rfl
      · right
        unfold isDig at hc
        simpa only [Bool.and_eq_true, decide_eq_true_eq] using hc
    have hs0 : signM (byt s 0) = 0 := by
      unfold signM
      repeat' split
      all_goals omega
    have hbl : ¬ isBlank (byt s 0) = true := by
      unfold isBlank
      simp only [Bool.or_eq_true, beq_iff_eq]
      omega
    refine ⟨by omega, ?_⟩
    unfold oneM
    simp only
    rw [if_neg (by rw [hs0]; simp), if_neg hbl, if_neg (by omega), if_pos hc', hr, sub_all, if_neg (by rw [h]; simp)]
/-- what may stand behind a token -/
def Term (T : ByteArray) (b : Nat) : Prop := b = T.size ∨ (isNum (byt T b) = false ∧ isLet (byt T b) = false)
theorem at_sub {T : ByteArray} {a : Nat} {l : Bs} (h : At T a l) (ha : a ≤ T.size) : T.extract a (a + l.length) = st l := by
  have hle := h.le ha
  have hz : (T.extract a (a + l.length)).size = l.length := by rw [ByteArray.size_extract]; omega
  have hl : (st l).data.toList = l := st_list l
  refine ba_same (Eq.trans ?_ hl.symm)
  refine List.ext_getElem ((len_ba _).trans hz) (fun i h1 h2 => ?_)
  have e1 := bytT (T.extract a (a + l.length)) i h1
  rw [byt_sub T a (a + l.length) i hle (by omega), h.get i h2] at e1
  exact UInt8.toNat_inj.1 e1
/-- a string in quotes is one token, and its text -/
theorem one_str {T : ByteArray} {a : Nat} {t : Bs} (h : (valid (st t)).2 = true) (hat : At T a (quoteM (st t)).1) (_ha : a ≤ T.size) : oneM T a = (8, a + (quoteM (st t)).1.length, 0) := by
  obtain ⟨rs, _, h2⟩ := scan_at (st t) T a h hat
  have hb : byt T a = 34 := by
    rw [quoteM_yes h] at hat
    exact (At.cons (x := 34) (l := quoteB (st t).data.toList ++ [34]) hat).2.1
  unfold oneM
  simp only
  rw [hb, h2]
  rfl
theorem str_key {T : ByteArray} {a : Nat} {t : Bs} (h : (valid (st t)).2 = true) (hat : At T a (quoteM (st t)).1) (ha : a ≤ T.size) : keyTx T a (a + (quoteM (st t)).1.length) = t := by
  unfold keyTx
  rw [at_sub hat ha, unquote_quote (st t) h]
theorem quote_pos {t : Bs} (h : (valid (st t)).2 = true) : 2 ≤ (quoteM (st t)).1.length := by
  rw [quoteM_yes h]
  simp only [List.cons_append, List.length_cons, List.length_append, List.length_nil]
  omega
theorem quote_len (t : ByteArray) : (quoteM t).1.length ≤ 6 * t.size + 2 := by
  by_cases h : (valid t).2 = true
  · rw [quoteM_yes h]
    have h1 := quoteB_len t.data.toList
    have h2 := len_ba t
    simp only [List.cons_append, List.length_cons, List.length_append, List.length_nil]
    omega
  · rw [quoteM_no h]
    exact Nat.zero_le _
/-! ### a text of a number, of a string, of two -/
theorem leaf_reads {s : ByteArray} {ns : List JN} {x : JN} (h0 : ns = [x]) (h : LeafOk s x) (hk : x.kids = []) : Rv s ns 32 0 (leafV s x) ns.length := by
  subst h0
  exact .leaf rfl h hk
theorem num_read {s : ByteArray} (hs : s.size ≤ 65536) (h : (parseM s.data.toList).2 = 0) : ∃ ns, jparseM s = .inr ns ∧ Rv s ns 32 0 (.mk 3 (textM (parseM s.data.toList).1) [] []) ns.length := by
  obtain ⟨h1, h2⟩ := number_one h
  refine ⟨[leafN (9, 0, s.size) (0, 0)], jparse_inr (l := [(9, 0, s.size)]) hs (NT_at h1 h2 (by decide) NT_end) rfl, ?_⟩
  have := leaf_reads (s := s) (x := leafN (9, 0, s.size) (0, 0)) rfl ⟨h1, Nat.le_refl _, 9, h2, rfl, .inr (.inr (.inl rfl))⟩ rfl
  rwa [show leafV s (leafN (9, 0, s.size) (0, 0)) = .mk 3 (textM (parseM (sub s 0 s.size)).1) [] [] from rfl, sub_all] at this
/-- a string at a is a leaf -/
theorem str_leaf {T : ByteArray} {a : Nat} {t : Bs} (key : Nat × Nat) (h : (valid (st t)).2 = true) (hat : At T a (quoteM (st t)).1) (ha : a ≤ T.size) : LeafOk T (leafN (8, a, a + (quoteM (st t)).1.length) key) ∧ leafV T (leafN (8, a, a + (quoteM (st t)).1.length) key) = .mk 4 t [] [] := by
  have hp := quote_pos h
  have hle := hat.le ha
  refine ⟨⟨by show a < a + _; omega, hle, 8, one_str h hat ha, rfl, .inr (.inr (.inr rfl))⟩, ?_⟩
  show Vl.mk 4 (keyTx T a (a + (quoteM (st t)).1.length)) [] [] = _
  rw [str_key h hat ha]
/-- a string between blanks -/
theorem str_read {T : ByteArray} {t : Bs} (hT : T.size ≤ 65536) (h : (valid (st t)).2 = true) (hat : T.data.toList = 32 :: ((quoteM (st t)).1 ++ [10])) : ∃ ns, jparseM T = .inr ns ∧ Rv T ns 32 0 (.mk 4 t [] []) ns.length := by
  have hA : At T 0 (32 :: ((quoteM (st t)).1 ++ [10])) := ⟨[], by rw [hat, List.append_nil]; rfl⟩
  have hz : T.size = (quoteM (st t)).1.length + 2 := by
    have : T.data.toList.length = T.size := Array.length_toList
    rw [hat] at this
    simp only [List.length_cons, List.length_append, List.length_nil] at this
    omega
  obtain ⟨h1, h2, h3⟩ := hA.cons
  rw [Nat.zero_add] at h3
  have hq1 := h3.take
  have ho := one_str h hq1 (by omega)
  obtain ⟨h5, h6, _⟩ := (h3.skip).cons
  have hp := quote_pos h
  have hr0 : runTo T isBlank 0 = 1 := by
    rw [runTo_step h1 (by rw [h2]; rfl)]
    exact runTo_stop (not_blank ho (by decide))
  have hend : NT T (1 + (quoteM (st t)).1.length) [] := .nil (by
    rw [runTo_step h5 (by rw [h6]; rfl)]
    rw [show 1 + (quoteM (st t)).1.length + 1 = T.size by omega]
    exact runTo_end (Nat.le_refl _))
  have hnt : NT T 0 [(8, 1, 1 + (quoteM (st t)).1.length)] := (NT_at (by omega) ho (by decide) hend).congr (by rw [hr0]; exact runTo_stop (not_blank ho (by decide)))
  obtain ⟨k1, k2⟩ := str_leaf (0, 0) h hq1 (by omega)
  refine ⟨[leafN (8, 1, 1 + (quoteM (st t)).1.length) (0, 0)], jparse_inr hT hnt rfl, ?_⟩
  have := leaf_reads (s := T) rfl k1 rfl
  rwa [k2] at this
/-- an array of a string, twice -/
theorem two_read {T : ByteArray} {t : Bs} (hT : T.size ≤ 65536) (h : (valid (st t)).2 = true) (hat : T.data.toList = 91 :: ((quoteM (st t)).1 ++ (44 :: ((quoteM (st t)).1 ++ [93])))) : ∃ ns, jparseM T = .inr ns ∧ Rv T ns 32 0 (.mk 5 [] [] [.mk 4 t [] [], .mk 4 t [] []]) ns.length := by
  have hA : At T 0 (91 :: ((quoteM (st t)).1 ++ (44 :: ((quoteM (st t)).1 ++ [93])))) := ⟨[], by rw [hat, List.append_nil]; rfl⟩
  have hz : T.size = 2 * (quoteM (st t)).1.length + 3 := by
    have : T.data.toList.length = T.size := Array.length_toList
    rw [hat] at this
    simp only [List.length_cons, List.length_append, List.length_nil] at this
    omega
  have hp := quote_pos h
  obtain ⟨h1, h2, h3⟩ := hA.cons
  rw [Nat.zero_add] at h3
  have hq1 := h3.take
  have o2 := one_str h hq1 (by omega)
  obtain ⟨h5, h6, h7⟩ := (h3.skip).cons
  have hq2 := h7.take
  have o4 := one_str h hq2 (by omega)
  obtain ⟨h9, h10, _⟩ := (h7.skip).cons
  obtain ⟨k1, k2⟩ := str_leaf (0, 0) h hq1 (by omega)
  obtain ⟨k3, k4⟩ := str_leaf (0, 0) h hq2 (by omega)
  generalize (quoteM (st t)).1.length = n at *
  have o1 : oneM T 0 = (4, 1, 0) := by unfold oneM; rw [h2]; rfl
  have o3 : oneM T (1 + n) = (6, 1 + n + 1, 0) := by unfold oneM; rw [h6]; rfl
  have o5 : oneM T (1 + n + 1 + n) = (5, 1 + n + 1 + n + 1, 0) := by unfold oneM; rw [h10]; rfl
  have hnt : NT T 0 [(4, 0, 1), (8, 1, 1 + n), (6, 1 + n, 1 + n + 1), (8, 1 + n + 1, 1 + n + 1 + n), (5, 1 + n + 1 + n, 1 + n + 1 + n + 1)] :=
    NT_at h1 o1 (by decide) (NT_at (by omega) o2 (by decide) (NT_at (by omega) o3 (by decide) (NT_at (by omega) o4 (by decide) (NT_at (by omega) o5 (by decide) (by rw [show 1 + n + 1 + n + 1 = T.size by omega]; exact NT_end)))))
  have hval : valueM T.size (keyTx T) 32 [(4, 0, 1), (8, 1, 1 + n), (6, 1 + n, 1 + n + 1), (8, 1 + n + 1, 1 + n + 1 + n), (5, 1 + n + 1 + n, 1 + n + 1 + n + 1)] (0, 0) [] =
      .inr ([], [⟨5, 0, 1 + n + 1 + n + 1, 0, 0, [1, 2], [(1, 1 + n), (1 + n + 1, 1 + n + 1 + n)]⟩, leafN (8, 1, 1 + n) (0, 0), leafN (8, 1 + n + 1, 1 + n + 1 + n) (0, 0)]) := rfl
  refine ⟨_, jparse_inr hT hnt hval, ?_⟩
  have g1 : Rv T [⟨5, 0, 1 + n + 1 + n + 1, 0, 0, [1, 2], [(1, 1 + n), (1 + n + 1, 1 + n + 1 + n)]⟩, leafN (8, 1, 1 + n) (0, 0), leafN (8, 1 + n + 1, 1 + n + 1 + n) (0, 0)] 31 1 (.mk 4 t [] []) 1 := by
    rw [← k2]
    exact .leaf rfl k1 rfl
  have g2 : Rv T [⟨5, 0, 1 + n + 1 + n + 1, 0, 0, [1, 2], [(1, 1 + n), (1 + n + 1, 1 + n + 1 + n)]⟩, leafN (8, 1, 1 + n) (0, 0), leafN (8, 1 + n + 1, 1 + n + 1 + n) (0, 0)] 31 2 (.mk 4 t [] []) 1 := by
    rw [← k4]
    exact .leaf rfl k3 rfl
  refine .arr (k := 0) (cs := [1, 1]) rfl rfl rfl rfl (fun i hi => ?_) (fun i hi => ?_)
  · have : i = 0 ∨ i = 1 := by have : i < 2 := hi; omega
    rcases this with rfl | rfl
    · exact (show 0 < 1 by decide)
    · exact (show 0 < 2 by decide)
  · have : i = 0 ∨ i = 1 := by have : i < 2 := hi; omega
    rcases this with rfl | rfl
    · exact g1
    · exact g2
end Go.Proofs.YtnlkokgekjlmmaaGreatDoor
