/-
  PLAIN MATHEMATICS: the document's Parse answers what the program's answers.
-/
import Derived.Test.YtinenhnfhdeidaaDoorNumRP
namespace Go.Proofs.YtinenhnfhdeidaaDoor
open Go.RowKit

/-- noughts ahead of an exponent, all but one -/
def stripZ : Bs → Bs
  | a :: b :: l => if a = 48 then stripZ (b :: l) else a :: b :: l
  | l => l
def rnum (neg : Bool) (down : Bool) (x frac d : Bs) : Dec × Int :=
  let s := stripR d
  let e := (if down then - numOf x else numOf x) - frac.length + d.length - s.length
  if d = [] then (.zero, 0) else if e < -1000000 ∨ 1000000 < e then (.zero, 4) else (⟨neg, s, e⟩, 0)
def rparseM (l : Bs) : Dec × Int :=
  let p := rpartsM l
  if p.ok = false then (.zero, 2) else if 1000 < p.whole.length + p.frac.length then (.zero, 3)
  else if 9 < (stripZ p.exp).length then (.zero, 4) else rnum p.neg p.down (stripZ p.exp) p.frac (stripL (p.whole ++ p.frac))

theorem stripL_cons (c : UInt8) (l : Bs) : stripL (c :: l) = if c = 48 then stripL l else c :: l := by
  unfold stripL Lib.trimLeftB
  rw [List.dropWhile_cons]
  by_cases h : c = 48
  · rw [if_pos h, if_pos (by simp [h])]
  · rw [if_neg h, if_neg (by simp [h])]
theorem numOf_nought (l : Bs) : numOf (48 :: l) = numOf l := by unfold numOf; rfl
theorem stripZ_nil : ∀ l : Bs, stripL l = [] → stripZ l = if l = [] then [] else [48]
  | [], _ => rfl
  | [a], h => by
    rw [stripL_cons] at h
    split at h
    · rename_i h1; subst h1; rfl
    · cases h
  | a :: b :: l, h => by
    rw [stripL_cons] at h
    split at h
    · rename_i h1
      have := stripZ_nil (b :: l) h
      simp only [stripZ, if_pos h1, this]
      rfl
    · cases h
theorem stripZ_not : ∀ l : Bs, stripL l ≠ [] → stripZ l = stripL l
  | [], h => absurd rfl h
  | [a], h => by
    rw [stripL_cons] at h ⊢
    split
    · rename_i h1; rw [if_pos h1] at h; exact absurd rfl h
    · rfl
  | a :: b :: l, h => by
    rw [stripL_cons] at h ⊢
    simp only [stripZ]
    by_cases h1 : a = 48
    · rw [if_pos h1] at h ⊢
      rw [if_pos h1]
      exact stripZ_not (b :: l) h
    · rw [if_neg h1, if_neg h1]
theorem samePow_strip {x pw : Bs} (h : SamePow x pw) : numOf (stripZ x) = numOf (stripL pw) ∧ (9 < (stripZ x).length ↔ 9 < (stripL pw).length) := by
  rcases h with rfl | ⟨rfl, rfl⟩
  · by_cases hs : stripL pw = []
    · rw [stripZ_nil _ hs, hs]
      split
      · exact ⟨rfl, Iff.rfl⟩
      · exact ⟨rfl, by simp⟩
    · rw [stripZ_not _ hs]
      exact ⟨rfl, Iff.rfl⟩
  · exact ⟨rfl, by simp [stripZ, stripL, Lib.trimLeftB]⟩
theorem stripL_head : ∀ l : Bs, (stripL l).head? ≠ some 48
  | [] => by simp [stripL, Lib.trimLeftB]
  | c :: l => by
    rw [stripL_cons]
    split
    · exact stripL_head l
    · rename_i h; simpa using h
theorem mem_tw {p : UInt8 → Bool} : ∀ {l : Bs} {x : UInt8}, x ∈ l.takeWhile p → p x = true
  | [], x, h => by simp at h
  | c :: l, x, h => by
    rw [List.takeWhile_cons] at h
    split at h
    · rename_i hc
      rcases List.mem_cons.1 h with h | h
      · rw [h]; exact hc
      · exact mem_tw h
    · simp at h
theorem stripR_ne {d : Bs} (h : d ≠ []) (hh : d.head? ≠ some 48) : stripR d ≠ [] := by
  intro h2
  cases d with
  | nil => exact h rfl
  | cons c l =>
    have h3 : c ≠ 48 := by simpa using hh
    unfold stripR Lib.trimRightB at h2
    have h4 : ((c :: l).reverse.dropWhile fun x => x == 48) = [] := by
      have := congrArg List.reverse h2
      rwa [List.reverse_reverse] at this
    have h6 := List.takeWhile_append_dropWhile (p := fun x : UInt8 => x == 48) (l := (c :: l).reverse)
    rw [h4, List.append_nil] at h6
    have h5 : c ∈ (c :: l).reverse.takeWhile fun x => x == 48 := by rw [h6]; simp
    have h7 := mem_tw h5
    exact h3 (by simpa using h7)
theorem rnum_right (neg down : Bool) (whole frac pw x : Bs) (hx : numOf x = numOf pw) (hw : (whole ++ frac).all isDig = true) (hl : whole.length + frac.length ≤ 1000) :
    rnum neg down x frac (stripL (whole ++ frac)) = (if (numM neg whole frac down pw).right = true then (numM neg whole frac down pw, 0) else (.zero, 4)) := by
  have hh := stripL_head (whole ++ frac)
  have hle := stripL_le (whole ++ frac)
  have hda := stripL_all hw
  rw [List.length_append] at hle
  unfold rnum numM
  simp only
  generalize stripL (whole ++ frac) = d at *
  rw [hx]
  generalize hE : (if down = true then -numOf pw else numOf pw) - (frac.length : Int) + (d.length : Int) - ((stripR d).length : Int) = e
  by_cases h0 : d = []
  · rw [if_pos h0]
    have : stripR d = [] := by rw [h0]; rfl
    rw [if_pos this]
    rfl
  · rw [if_neg h0]
    have hs := stripR_ne h0 hh
    obtain ⟨t, ht⟩ := stripR_pre d
    have hlast := stripR_last d
    rw [if_neg hs]
    have hlen := congrArg List.length ht
    rw [List.length_append] at hlen
    generalize stripR d = s at *
    have hsd : s.all isDig = true := by rw [ht, List.all_append, Bool.and_eq_true] at hda; exact hda.1
    have hsh : s.head? ≠ some 48 := by
      cases s with
      | nil => exact absurd rfl hs
      | cons c l => rw [ht] at hh; exact hh
    have hp := List.length_pos_iff.2 hs
    have hr : (Dec.mk neg s e).right = decide (-1000000 ≤ e ∧ e ≤ 1000000) := by
      unfold Dec.right
      rw [if_neg (fun h => hs (congrArg Dec.digits h)), if_neg, if_neg]
      · unfold Dec.nought0; exact fun h => h.elim hsh hlast
      · unfold Dec.bad
        rintro (h | h | h)
        · simp only at h; omega
        · simp only at h; omega
        · simp only at h; rw [hsd] at h; cases h
    by_cases hb : e < -1000000 ∨ 1000000 < e
    · rw [if_pos hb, hr, decide_eq_false (by omega)]
      rfl
    · rw [if_neg hb, hr, decide_eq_true (by omega)]
      rfl
theorem rparseM_eq (l : Bs) : rparseM l = parseM l := by
  have hf := parts_fits l
  have hq := @splitM_parts l
  unfold rparseM parseM
  generalize rpartsM l = r at *
  generalize splitM l = o at *
  rcases hf with ⟨h1, h2⟩ | ⟨h1, pw, h2, h3⟩
  · subst h2
    simp only [h1]
    rfl
  · subst h2
    obtain ⟨h4, h5⟩ := samePow_strip h3
    obtain ⟨q1, q2, q3, q4⟩ := hq rfl
    simp only [h1] at *
    rw [if_neg (by simp)]
    by_cases hk : 1000 < r.whole.length + r.frac.length
    · rw [if_pos hk, if_pos hk]
    · rw [if_neg hk, if_neg hk]
      by_cases h9 : 9 < (stripL pw).length
      · rw [if_pos h9, if_pos (h5.2 h9)]
      · rw [if_neg h9, if_neg (fun h => h9 (h5.1 h))]
        exact rnum_right _ _ _ _ _ _ h4 (by rw [List.all_append, q2, q3]; rfl) (by omega)
end Go.Proofs.YtinenhnfhdeidaaDoor
