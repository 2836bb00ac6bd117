/-
  PLAIN MATHEMATICS: the document's parts of a literal and its Parse are those of the program.
-/
import Derived.Test.YtinenhnfhdeidaaDoorNumParse
import Derived.Test.YtinenhnfhdeidaaDoorNumInt
namespace Go.Proofs.YtinenhnfhdeidaaDoor
open Go.RowKit

def notE (c : UInt8) : Bool := !(c == 101 || c == 69)
def notPt (c : UInt8) : Bool := !(c == 46)
def digs (l : Bs) : Bool := decide (l ≠ [] ∧ l.all isDig = true)
def rexp : Bs → Bool × Bs
  | [] => (false, [48])
  | _ :: r => if (r.head? == some 45) = true then (true, r.tail) else (false, if (r.head? == some 43) = true then r.tail else r)
def rrest : Bs → Bs
  | [] => [48]
  | _ :: r => r
def rfrac : Bs → Bs
  | [] => []
  | _ :: r => r
structure RParts where
  neg : Bool
  whole : Bs
  frac : Bs
  down : Bool
  exp : Bs
  ok : Bool
def wholeOk (w : Bs) : Bool := decide (w = [48] ∨ w.head? ≠ some 48)
def rpartsW (neg : Bool) (m : Bs) : RParts :=
  let mant := m.takeWhile notE
  let tl := m.dropWhile notE
  let whole := mant.takeWhile notPt
  let pt := mant.dropWhile notPt
  ⟨neg, whole, rfrac pt, (rexp tl).1, (rexp tl).2, digs whole && digs (rrest pt) && digs (rexp tl).2 && wholeOk whole⟩
def rpartsM (l : Bs) : RParts := if (l.head? == some 45) = true then rpartsW true l.tail else rpartsW false l
/-- the power that the program keeps, where the document keeps this exponent -/
def SamePow (x pw : Bs) : Prop := pw = x ∨ (x = [48] ∧ pw = [])
def Fits (r : RParts) (o : Option Parts) : Prop :=
  (r.ok = false ∧ o = none) ∨ (r.ok = true ∧ ∃ pw, o = some ⟨r.neg, r.whole, r.frac, r.down, pw⟩ ∧ SamePow r.exp pw)

theorem dig_notE {c : UInt8} (h : isDig c = true) : notE c = true ∧ notPt c = true := by
  unfold isDig at h
  simp only [Bool.and_eq_true, decide_eq_true_eq] at h
  unfold notE notPt
  constructor
  · cases h1 : (c == 101 || c == 69) with
    | false => rfl
    | true =>
      simp only [Bool.or_eq_true, beq_iff_eq] at h1
      rcases h1 with h1 | h1 <;> (rw [h1] at h; simp at h)
  · cases h1 : (c == 46) with
    | false => rfl
    | true =>
      simp only [beq_iff_eq] at h1
      rw [h1] at h; simp at h
theorem tw_append {p : UInt8 → Bool} {a : Bs} (b : Bs) (h : a.all p = true) : (a ++ b).takeWhile p = a ++ b.takeWhile p ∧ (a ++ b).dropWhile p = b.dropWhile p := by
  induction a with
  | nil => exact ⟨rfl, rfl⟩
  | cons c a ih =>
    simp only [List.all_cons, Bool.and_eq_true] at h
    obtain ⟨h1, h2⟩ := ih h.2
    exact ⟨by rw [List.cons_append, List.takeWhile_cons, if_pos h.1, h1]; rfl, by rw [List.cons_append, List.dropWhile_cons, if_pos h.1, h2]⟩
theorem all_imp {p q : UInt8 → Bool} {a : Bs} (h : ∀ c, p c = true → q c = true) (ha : a.all p = true) : a.all q = true := by
  rw [List.all_eq_true] at *
  exact fun x hx => h x (ha x hx)
theorem head_drop {p : UInt8 → Bool} (l : Bs) {c : UInt8} {r : Bs} (h : l.dropWhile p = c :: r) : p c = false := by
  induction l with
  | nil => cases h
  | cons x l ih =>
    rw [List.dropWhile_cons] at h
    split at h
    · exact ih h
    · rename_i hx
      injection h with h1 h2
      rw [← h1]; simpa using hx
theorem digs_no {a b : Bs} {c : UInt8} (h : isDig c = false) : digs (a ++ c :: b) = false := by
  unfold digs
  refine decide_eq_false (fun hh => ?_)
  have := hh.2
  rw [List.all_append, List.all_cons, h] at this
  simp at this
theorem wholeOk_eq (w : Bs) (h : w.all isDig = true) : (digs w && wholeOk w) = decide (¬ (w = [] ∨ (1 < w.length ∧ w.head? = some 48))) := by
  unfold digs wholeOk
  rw [← Bool.decide_and]
  refine decide_eq_decide.2 ?_
  cases w with
  | nil => simp
  | cons c l =>
    cases l with
    | nil =>
      simp only [List.head?_cons, Option.some.injEq, List.length_cons, List.length_nil]
      constructor
      · intro _ hh; rcases hh with hh | hh
        · cases hh
        · omega
      · intro _
        refine ⟨⟨by simp, h⟩, ?_⟩
        by_cases hc : c = 48
        · left; rw [hc]
        · right; simpa using hc
    | cons d l =>
      constructor
      · rintro ⟨⟨_, _⟩, hh⟩ h2
        rcases h2 with h2 | h2
        · cases h2
        · rcases hh with hh | hh
          · injection hh with _ hh; cases hh
          · exact hh h2.2
      · intro hh
        refine ⟨⟨by simp, h⟩, .inr (fun h2 => hh (.inr ⟨by simp, h2⟩))⟩
/-- behind the mantissa: what the program does with e's tail is what the document does -/
theorem splitExp_fits (p : Parts) (c : UInt8) (r : Bs) :
    (digs (rexp (c :: r)).2 = false ∧ splitExp p r = none) ∨ (digs (rexp (c :: r)).2 = true ∧ splitExp p r = some { p with down := (rexp (c :: r)).1, power := (rexp (c :: r)).2 }) := by
  have key : ∀ (d : Bool) (x : Bs), (digs x = false ∧ splitFin p d x = none) ∨ (digs x = true ∧ splitFin p d x = some { p with down := d, power := x }) := by
    intro d x
    unfold digs splitFin
    by_cases h : x ≠ [] ∧ x.all isDig = true
    · exact .inr ⟨decide_eq_true h, if_pos h⟩
    · exact .inl ⟨decide_eq_false h, if_neg h⟩
  unfold splitExp rexp
  by_cases h : (r.head? == some 45) = true
  · rw [if_pos h]; simp only [h]; exact key _ _
  · rw [if_neg h]; simp only [if_neg h]; exact key _ _
theorem isE_of {c : UInt8} (h : notE c = false) : c = 101 ∨ c = 69 := by
  unfold notE at h
  cases hc : (c == 101 || c == 69) with
  | false => rw [hc] at h; cases h
  | true => simpa only [Bool.or_eq_true, beq_iff_eq] using hc
theorem notE_of {c : UInt8} (h : notE c = true) : ¬ (c = 101 ∨ c = 69) := by
  unfold notE at h
  simpa using h
/-- behind the digits of the fraction, or of the whole: the rest must be nothing, or an exponent -/
theorem splitTail_fits (p : Parts) (hp : p.down = false ∧ p.power = []) (l : Bs) (hl : ∀ c r, l = c :: r → isDig c = false) :
    (l.takeWhile notE = [] ∧ ((digs (rexp (l.dropWhile notE)).2 = false ∧ splitTail p l = none) ∨ (digs (rexp (l.dropWhile notE)).2 = true ∧ ∃ pw, splitTail p l = some { p with down := (rexp (l.dropWhile notE)).1, power := pw } ∧ SamePow (rexp (l.dropWhile notE)).2 pw))) ∨
    (∃ c r, l.takeWhile notE = c :: r ∧ isDig c = false ∧ l.head? = some c ∧ splitTail p l = none) := by
  cases l with
  | nil =>
    left
    refine ⟨rfl, .inr ⟨by decide, [], ?_, .inr ⟨rfl, rfl⟩⟩⟩
    obtain ⟨a, b, c, d, e⟩ := p
    obtain ⟨h1, h2⟩ := hp
    simp only at h1 h2
    subst h1; subst h2
    rfl
  | cons c r =>
    have hc := hl c r rfl
    have e : splitTail p (c :: r) = if c = 101 ∨ c = 69 then splitExp p r else none := rfl
    cases hE : notE c with
    | false =>
      left
      have h1 : (c :: r).dropWhile notE = c :: r := by rw [List.dropWhile_cons, if_neg (by rw [hE]; simp)]
      rw [h1, e, if_pos (isE_of hE)]
      refine ⟨by rw [List.takeWhile_cons, if_neg (by rw [hE]; simp)], ?_⟩
      rcases splitExp_fits p c r with h | h
      · exact .inl h
      · exact .inr ⟨h.1, _, h.2, .inl rfl⟩
    | true =>
      right
      exact ⟨c, r.takeWhile notE, by rw [List.takeWhile_cons, if_pos hE], hc, rfl, by rw [e, if_neg (notE_of hE)]⟩
theorem parts_whole (neg : Bool) (m : Bs) : Fits (rpartsW neg m) (splitWhole neg m) := by
  have hA := takeWhile_all m
  have hm := List.takeWhile_append_dropWhile (p := isDig) (l := m)
  have hB : ∀ c r, m.dropWhile isDig = c :: r → isDig c = false := fun c r h => head_drop m h
  unfold splitWhole rpartsW
  simp only
  generalize m.takeWhile isDig = A at *
  generalize m.dropWhile isDig = B at *
  subst hm
  obtain ⟨e1, e2⟩ := tw_append B (all_imp (q := notE) (fun c h => (dig_notE h).1) hA)
  rw [e1, e2]
  obtain ⟨e3, e4⟩ := tw_append (B.takeWhile notE) (all_imp (q := notPt) (fun c h => (dig_notE h).2) hA)
  rw [e3, e4]
  have hw := wholeOk_eq A hA
  -- the whole's own test
  have close : ∀ (rest frac : Bs) (x : Bool × Bs) (o : Option Parts),
      ((digs rest && digs x.2) = false ∧ o = none) ∨ ((digs rest && digs x.2) = true ∧ ∃ pw, o = some ⟨neg, A, frac, x.1, pw⟩ ∧ SamePow x.2 pw) →
      Fits ⟨neg, A, frac, x.1, x.2, digs A && digs rest && digs x.2 && wholeOk A⟩ (if A = [] ∨ (1 < A.length ∧ A.head? = some 48) then none else o) := by
    intro rest frac x o h
    have hb : (digs A && digs rest && digs x.2 && wholeOk A) = ((digs A && wholeOk A) && (digs rest && digs x.2)) := by
      cases digs A <;> cases digs rest <;> cases digs x.2 <;> cases wholeOk A <;> rfl
    unfold Fits
    simp only [hb, hw]
    by_cases hbad : A = [] ∨ (1 < A.length ∧ A.head? = some 48)
    · rw [if_pos hbad, decide_eq_false (fun hh => hh hbad)]
      exact .inl ⟨rfl, rfl⟩
    · rw [if_neg hbad, decide_eq_true hbad]
      simpa using h
  have closeN : ∀ (whole rest frac : Bs) (x : Bool × Bs) (o : Option Parts), digs whole = false → o = none → Fits ⟨neg, whole, frac, x.1, x.2, digs whole && digs rest && digs x.2 && wholeOk whole⟩ (if A = [] ∨ (1 < A.length ∧ A.head? = some 48) then none else o) := by
    intro whole rest frac x o h ho
    refine .inl ⟨?_, ?_⟩
    · simp [h]
    · rw [ho]; split <;> rfl
  cases B with
  | nil =>
    simp only [List.takeWhile_nil, List.dropWhile_nil, List.append_nil]
    refine close _ _ _ _ (.inr ⟨by decide, [], rfl, .inr ⟨rfl, rfl⟩⟩)
  | cons c r =>
    have hc := hB c r rfl
    by_cases h46 : c = 46
    · subst h46
      have f1 : (46 :: r).takeWhile notE = 46 :: r.takeWhile notE := by rw [List.takeWhile_cons]; rfl
      have f2 : (46 :: r).dropWhile notE = r.dropWhile notE := by rw [List.dropWhile_cons]; rfl
      have f3 : (46 :: r.takeWhile notE).takeWhile notPt = [] := by rw [List.takeWhile_cons]; rfl
      have f4 : (46 :: r.takeWhile notE).dropWhile notPt = 46 :: r.takeWhile notE := by rw [List.dropWhile_cons]; rfl
      rw [f1, f2, f3, f4, List.append_nil]
      have hF := takeWhile_all r
      have hr := List.takeWhile_append_dropWhile (p := isDig) (l := r)
      have hG : ∀ c t, r.dropWhile isDig = c :: t → isDig c = false := fun c t h => head_drop r h
      unfold splitFrac
      simp only [rrest, rfrac]
      generalize r.takeWhile isDig = F at *
      generalize r.dropWhile isDig = G at *
      subst hr
      obtain ⟨g1, g2⟩ := tw_append G (all_imp (q := notE) (fun c h => (dig_notE h).1) hF)
      rw [g1, g2]
      refine close _ _ _ _ ?_
      rcases splitTail_fits ⟨neg, A, F, false, []⟩ ⟨rfl, rfl⟩ G hG with ⟨h1, h2⟩ | ⟨c, t, h1, h2, _, h3⟩
      · rw [h1, List.append_nil]
        by_cases hF0 : F = []
        · left
          rw [if_pos hF0, hF0]
          exact ⟨by simp [digs], rfl⟩
        · have hd : digs F = true := decide_eq_true ⟨hF0, hF⟩
          rw [if_neg hF0, hd, Bool.true_and]
          exact h2
      · left
        rw [h1, digs_no h2]
        refine ⟨rfl, ?_⟩
        split
        · rfl
        · exact h3
    · have hsf : splitFrac ⟨neg, A, [], false, []⟩ (c :: r) = splitTail ⟨neg, A, [], false, []⟩ (c :: r) := by
        unfold splitFrac
        split
        · rename_i heq; injection heq with heq _; exact absurd heq h46
        · rfl
      rw [hsf]
      rcases splitTail_fits ⟨neg, A, [], false, []⟩ ⟨rfl, rfl⟩ (c :: r) (fun x y hxy => hB x y hxy) with ⟨h1, h2⟩ | ⟨d, t, h1, h2, h0, h3⟩
      · rw [h1]
        simp only [List.takeWhile_nil, List.dropWhile_nil, List.append_nil]
        refine close _ _ _ _ ?_
        rw [show digs (rrest []) = true by decide, Bool.true_and]
        exact h2
      · injection h0 with h0
        subst h0
        have f5 : notPt c = true := by unfold notPt; simp [h46]
        rw [h1, List.takeWhile_cons, if_pos f5]
        exact closeN _ _ _ _ _ (digs_no h2) h3
theorem parts_fits (l : Bs) : Fits (rpartsM l) (splitM l) := by
  unfold rpartsM splitM
  by_cases h : (l.head? == some 45) = true
  · rw [if_pos h, if_pos h]; exact parts_whole _ _
  · rw [if_neg h, if_neg h]; exact parts_whole _ _
end Go.Proofs.YtinenhnfhdeidaaDoor
