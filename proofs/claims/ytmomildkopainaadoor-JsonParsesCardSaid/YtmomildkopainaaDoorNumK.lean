/-
  PLAIN MATHEMATICS: the order of bytes of two texts of digits is the order of the numbers that they are behind a point.
  PLAIN MATHEMATICS: the text of an int is a literal without fraction and exponent; its digits are the int's.
  PLAIN MATHEMATICS: the document's parts of a literal and its Parse are those of the program.
  PLAIN MATHEMATICS: the document's Parse answers what the program's answers.
  WALKS: the document's digits.
  WALKS: the document's parts of a literal.
  WALKS: the document's Parse.
-/
import Derived.Test.YtmomildkopainaaDoorNumJ
import Derived.Lib.ItoaLen
import Derived.Deep.LoopGhost
import Derived.Deep.CutRange

namespace Go.Proofs.YtmomildkopainaaDoor
open Go.RowKit

def sg (x : Int) : Int := if x < 0 then -1 else if 0 < x then 1 else 0
theorem sg_neg {x : Int} (h : x < 0) : sg x = -1 := if_pos h
theorem sg_pos {x : Int} (h : 0 < x) : sg x = 1 := (if_neg (by omega)).trans (if_pos h)
theorem ten_pos (n : Nat) : (1 : Int) ≤ 10 ^ n := by have := Int.pow_pos (n := (10 : Int)) (m := n) (by omega); omega
theorem numOf_foldl (l : Bs) : ∀ n : Int, l.foldl (fun n c => n * 10 + ((c.toNat : Int) - 48)) n = n * 10 ^ l.length + numOf l := by
  induction l with
  | nil => intro n; simp [numOf]
  | cons x l ih =>
    intro n
    have h0 : numOf (x :: l) = l.foldl (fun n c => n * 10 + ((c.toNat : Int) - 48)) (0 * 10 + ((x.toNat : Int) - 48)) := rfl
    rw [List.foldl_cons, ih, h0, ih, List.length_cons, Int.pow_succ]
    generalize (10 : Int) ^ l.length = T
    generalize numOf l = Q
    grind
theorem numOf_cons (x : UInt8) (l : Bs) : numOf (x :: l) = ((x.toNat : Int) - 48) * 10 ^ l.length + numOf l := by
  have h0 : numOf (x :: l) = l.foldl (fun n c => n * 10 + ((c.toNat : Int) - 48)) (0 * 10 + ((x.toNat : Int) - 48)) := rfl
  rw [h0, numOf_foldl]
  generalize (10 : Int) ^ l.length = T
  generalize numOf l = Q
  grind
theorem dig_bd {x : UInt8} (h : isDig x = true) : 0 ≤ (x.toNat : Int) - 48 ∧ (x.toNat : Int) - 48 ≤ 9 := by
  unfold isDig at h; simp at h; omega
theorem last_tail {x : UInt8} {l : Bs} (h : (x :: l).getLast? ≠ some 48) : l.getLast? ≠ some 48 := by
  cases l with
  | nil => simp
  | cons y l => rwa [List.getLast?_cons_cons] at h
theorem numOf_pos : ∀ a : Bs, a ≠ [] → a.all isDig = true → a.getLast? ≠ some 48 → 1 ≤ numOf a
  | [], h, _, _ => absurd rfl h
  | x :: l, _, hd, hl => by
    rw [List.all_cons, Bool.and_eq_true] at hd
    have hx := dig_bd hd.1
    have hT := ten_pos l.length
    rw [numOf_cons]
    cases l with
    | nil =>
      have : x.toNat ≠ 48 := fun h => hl (by rw [List.getLast?_singleton]; exact congrArg some (UInt8.toNat_inj.1 h))
      simp [numOf]
      omega
    | cons y l =>
      have := numOf_pos (y :: l) (by simp) hd.2 (last_tail hl)
      have h2 : 0 ≤ ((x.toNat : Int) - 48) * 10 ^ (y :: l).length := Int.mul_nonneg hx.1 (by omega)
      omega
/-- a text of digits behind a point, M places wide -/
def pad (a : Bs) (M : Nat) : Int := numOf a * 10 ^ (M - a.length)
theorem pad_bd (a : Bs) (M : Nat) (hd : a.all isDig = true) (hM : a.length ≤ M) : 0 ≤ pad a M ∧ pad a M ≤ 10 ^ M - 1 := by
  obtain ⟨h0, h1⟩ := numOf_bd a hd
  have hT := ten_pos (M - a.length)
  have hp : (10 : Int) ^ M = 10 ^ a.length * 10 ^ (M - a.length) := by rw [← Int.pow_add]; congr 1; omega
  unfold pad
  rw [hp]
  generalize (10 : Int) ^ (M - a.length) = T at *
  generalize (10 : Int) ^ a.length = L at *
  generalize numOf a = Q at *
  refine ⟨Int.mul_nonneg h0 (by omega), ?_⟩
  have : Q * T ≤ (L - 1) * T := Int.mul_le_mul_of_nonneg_right h1 (by omega)
  have e : (L - 1) * T = L * T - T := by grind
  omega
theorem pad_cons (x : UInt8) (a : Bs) (M : Nat) (hM : a.length ≤ M) : pad (x :: a) (M + 1) = ((x.toNat : Int) - 48) * 10 ^ M + pad a M := by
  have hp : (10 : Int) ^ M = 10 ^ a.length * 10 ^ (M - a.length) := by rw [← Int.pow_add]; congr 1; omega
  unfold pad
  rw [numOf_cons, List.length_cons, hp, show M + 1 - (a.length + 1) = M - a.length by omega]
  generalize (10 : Int) ^ (M - a.length) = T
  generalize (10 : Int) ^ a.length = L
  grind
theorem cmp_pad : ∀ (a b : Bs) (M : Nat), a.all isDig = true → b.all isDig = true → a.getLast? ≠ some 48 → b.getLast? ≠ some 48 → a.length ≤ M → b.length ≤ M → Lib.compareBytes a b = sg (pad a M - pad b M)
  | [], [], M, _, _, _, _, _, _ => by simp [Lib.compareBytes, sg]
  | [], y :: b, M, _, hb, _, hlb, _, hM => by
    have := numOf_pos (y :: b) (by simp) hb hlb
    have hp : 1 ≤ pad (y :: b) M := by
      unfold pad
      have := Int.mul_le_mul this (ten_pos (M - (y :: b).length)) (by omega) (by omega)
      omega
    have h0 : pad [] M = 0 := by simp [pad, numOf]
    rw [sg_neg (by omega)]; rfl
  | x :: a, [], M, ha, _, hla, _, hM, _ => by
    have := numOf_pos (x :: a) (by simp) ha hla
    have hp : 1 ≤ pad (x :: a) M := by
      unfold pad
      have := Int.mul_le_mul this (ten_pos (M - (x :: a).length)) (by omega) (by omega)
      omega
    have h0 : pad [] M = 0 := by simp [pad, numOf]
    rw [sg_pos (by omega)]; rfl
  | x :: a, y :: b, 0, _, _, _, _, h, _ => by simp at h
  | x :: a, y :: b, M + 1, ha, hb, hla, hlb, hM, hM2 => by
    rw [List.all_cons, Bool.and_eq_true] at ha hb
    simp only [List.length_cons] at hM hM2
    have hx := dig_bd ha.1
    have hy := dig_bd hb.1
    have pa := pad_bd a M ha.2 (by omega)
    have pb := pad_bd b M hb.2 (by omega)
    have ih := cmp_pad a b M ha.2 hb.2 (last_tail hla) (last_tail hlb) (by omega) (by omega)
    rw [pad_cons x a M (by omega), pad_cons y b M (by omega)]
    have hT := ten_pos M
    show (if x < y then -1 else if y < x then 1 else Lib.compareBytes a b) = _
    rw [ih]
    simp only [UInt8.lt_iff_toNat_lt]
    generalize (10 : Int) ^ M = T at *
    generalize pad a M = A at *
    generalize pad b M = B at *
    by_cases h1 : x.toNat < y.toNat
    · rw [if_pos h1, sg_neg]
      have : ((x.toNat : Int) - 48) * T + T ≤ ((y.toNat : Int) - 48) * T := by
        have := Int.mul_le_mul_of_nonneg_right (show ((x.toNat : Int) - 48) + 1 ≤ (y.toNat : Int) - 48 by omega) (show 0 ≤ T by omega)
        have e : (((x.toNat : Int) - 48) + 1) * T = ((x.toNat : Int) - 48) * T + T := by grind
        omega
      omega
    · rw [if_neg h1]
      by_cases h2 : y.toNat < x.toNat
      · rw [if_pos h2, sg_pos]
        have : ((y.toNat : Int) - 48) * T + T ≤ ((x.toNat : Int) - 48) * T := by
          have := Int.mul_le_mul_of_nonneg_right (show ((y.toNat : Int) - 48) + 1 ≤ (x.toNat : Int) - 48 by omega) (show 0 ≤ T by omega)
          have e : (((y.toNat : Int) - 48) + 1) * T = ((y.toNat : Int) - 48) * T + T := by grind
          omega
        omega
      · rw [if_neg h2, show x.toNat = y.toNat by omega]
        congr 1
        omega
end Go.Proofs.YtmomildkopainaaDoor

namespace Go.Proofs.YtmomildkopainaaDoor
open Go.RowKit

theorem dec_small {u : Nat} (h : u < 10) : Lib.decDigits u = [UInt8.ofNat (48 + u)] := by rw [Lib.decDigits, dif_pos h]
theorem dec_great {u : Nat} (h : ¬ u < 10) : Lib.decDigits u = Lib.decDigits (u / 10) ++ [UInt8.ofNat (48 + u % 10)] := by rw [Lib.decDigits, dif_neg h]
theorem of_nat_dig {k : Nat} (h : k < 10) : (UInt8.ofNat (48 + k)).toNat = 48 + k := by
  rw [UInt8.toNat_ofNat']; omega
theorem dig_of_nat {k : Nat} (h : k < 10) : isDig (UInt8.ofNat (48 + k)) = true := by
  unfold isDig; rw [of_nat_dig h]; simp; omega
theorem dec_all (u : Nat) : (Lib.decDigits u).all isDig = true := by
  induction u using Nat.strongRecOn with
  | ind u ih =>
    by_cases h : u < 10
    · rw [dec_small h, List.all_cons, dig_of_nat h]; rfl
    · rw [dec_great h, List.all_append, ih (u / 10) (by omega), List.all_cons, dig_of_nat (Nat.mod_lt u (by omega : 0 < 10))]; rfl
theorem dec_num (u : Nat) : numOf (Lib.decDigits u) = u := by
  induction u using Nat.strongRecOn with
  | ind u ih =>
    by_cases h : u < 10
    · rw [dec_small h]; simp [numOf]; have := of_nat_dig h; simp at this; omega
    · rw [dec_great h, numOf_snoc, ih (u / 10) (by omega), of_nat_dig (Nat.mod_lt u (by omega : 0 < 10))]; omega
theorem dec_ne (u : Nat) : Lib.decDigits u ≠ [] := by
  by_cases h : u < 10
  · rw [dec_small h]; simp
  · rw [dec_great h]; simp
theorem dec_head (u : Nat) (hu : 0 < u) : (Lib.decDigits u).head? ≠ some 48 := by
  induction u using Nat.strongRecOn with
  | ind u ih =>
    by_cases h : u < 10
    · rw [dec_small h]
      intro hh
      have := congrArg UInt8.toNat (Option.some.inj hh)
      rw [of_nat_dig h] at this
      simp at this; omega
    · have hi := ih (u / 10) (by omega) (by omega)
      rw [dec_great h]
      cases he : Lib.decDigits (u / 10) with
      | nil => exact absurd he (dec_ne _)
      | cons c l => rw [he] at hi; exact hi
theorem takeWhile_eq {l : Bs} (h : l.all isDig = true) : l.takeWhile isDig = l ∧ l.dropWhile isDig = [] := by
  induction l with
  | nil => exact ⟨rfl, rfl⟩
  | cons c l ih =>
    rw [List.all_cons, Bool.and_eq_true] at h
    obtain ⟨h1, h2⟩ := ih h.2
    exact ⟨by rw [List.takeWhile_cons, if_pos h.1, h1], by rw [List.dropWhile_cons, if_pos h.1, h2]⟩
theorem splitWhole_dec (neg : Bool) (u : Nat) : splitWhole neg (Lib.decDigits u) = some ⟨neg, Lib.decDigits u, [], false, []⟩ := by
  obtain ⟨h1, h2⟩ := takeWhile_eq (dec_all u)
  unfold splitWhole
  simp only [h1, h2]
  rw [if_neg]
  · rfl
  · rintro (h | ⟨h, hh⟩)
    · exact dec_ne u h
    · by_cases h0 : u = 0
      · subst h0; rw [dec_small (by omega)] at h; simp at h
      · exact dec_head u (by omega) hh
theorem head_not (u : Nat) : ((Lib.decDigits u).head? == some 45) = false := by
  have hd := dec_all u
  cases he : Lib.decDigits u with
  | nil => rfl
  | cons c l =>
    rw [he, List.all_cons, Bool.and_eq_true] at hd
    have := dig_bd hd.1
    rw [List.head?_cons]
    refine beq_eq_false_iff_ne.2 (fun h => ?_)
    have := congrArg UInt8.toNat (Option.some.inj h)
    simp at this; omega
theorem splitM_itoa (n : Int) : splitM (Lib.itoa n) = some ⟨decide (n < 0), Lib.decDigits n.natAbs, [], false, []⟩ := by
  unfold Lib.itoa splitM
  by_cases h : n < 0
  · rw [if_pos h, if_pos (by rfl), List.tail_cons, splitWhole_dec, decide_eq_true h]
  · rw [if_neg h, if_neg (by rw [head_not]; simp), splitWhole_dec, decide_eq_false h, show n.natAbs = n.toNat by omega]
theorem stripL_dec (u : Nat) (hu : 0 < u) : stripL (Lib.decDigits u) = Lib.decDigits u := by
  have hh := dec_head u hu
  unfold stripL Lib.trimLeftB
  cases he : Lib.decDigits u with
  | nil => rfl
  | cons c l =>
    rw [he, List.head?_cons] at hh
    rw [List.dropWhile_cons, if_neg]
    simp only [beq_iff_eq]
    exact fun h => hh (congrArg some h)
theorem stripR_snoc (l : Bs) (c : UInt8) : stripR (l ++ [c]) = if c = 48 then stripR l else l ++ [c] := by
  unfold stripR Lib.trimRightB
  rw [List.reverse_append, List.reverse_singleton, List.singleton_append, List.dropWhile_cons]
  by_cases h : c = 48
  · rw [if_pos (by simp [h]), if_pos h]
  · rw [if_neg (by simp [h]), if_neg h]; simp
theorem stripR_facts : ∀ r : Bs, numOf r.reverse = numOf (stripR r.reverse) * 10 ^ (r.length - (stripR r.reverse).length) ∧ (stripR r.reverse).length ≤ r.length ∧ (stripR r.reverse).getLast? ≠ some 48 ∧ ∃ t, r.reverse = stripR r.reverse ++ t
  | [] => ⟨by simp [numOf, stripR, Lib.trimRightB], by simp [stripR, Lib.trimRightB], by simp [stripR, Lib.trimRightB], [], by simp [stripR, Lib.trimRightB]⟩
  | c :: r => by
    obtain ⟨h1, h2, h3, t, h4⟩ := stripR_facts r
    rw [List.reverse_cons, stripR_snoc]
    by_cases h : c = 48
    · rw [if_pos h]
      refine ⟨?_, by rw [List.length_cons]; omega, h3, t ++ [c], by rw [← List.append_assoc, ← h4]⟩
      rw [numOf_snoc, h1, List.length_cons, show r.length + 1 - (stripR r.reverse).length = r.length - (stripR r.reverse).length + 1 by omega, Int.pow_succ, h]
      have e : ((48 : UInt8).toNat : Int) - 48 = 0 := by decide
      rw [e]
      generalize (10 : Int) ^ (r.length - (stripR r.reverse).length) = T
      generalize numOf (stripR r.reverse) = Q
      grind
    · rw [if_neg h]
      refine ⟨by simp, by simp, ?_, [], by simp⟩
      rw [List.getLast?_concat]
      exact fun hh => h (Option.some.inj hh)
theorem stripR_num (l : Bs) : numOf l = numOf (stripR l) * 10 ^ (l.length - (stripR l).length) := by
  have := (stripR_facts l.reverse).1
  rwa [List.reverse_reverse, List.length_reverse] at this
theorem stripR_last (l : Bs) : (stripR l).getLast? ≠ some 48 := by
  have := (stripR_facts l.reverse).2.2.1
  rwa [List.reverse_reverse] at this
theorem stripR_pre (l : Bs) : ∃ t, l = stripR l ++ t := by
  have := (stripR_facts l.reverse).2.2.2
  rwa [List.reverse_reverse] at this
end Go.Proofs.YtmomildkopainaaDoor

namespace Go.Proofs.YtmomildkopainaaDoor
open Go.RowKit

def notE (c : UInt8) : Bool := !(c == 101 || c == 69)
def notPt (c : UInt8) : Bool := !(c == 46)
def digs (l : Bs) : Bool := decide (l ≠ [] ∧ l.all isDig = true)
def rexp : Bs → Bool × Bs
  | [] => (false, [48])
  | _ :: r => if (r.head? == some 45) = true then (true, r.tail) else (false, if (r.head? == some 43) = true then r.tail else r)
def rrest : Bs → Bs
  | [] => [48]
  | _ :: r => r
def rfrac : Bs → Bs
  | [] => []
  | _ :: r => r
structure RParts where
  neg : Bool
  whole : Bs
  frac : Bs
  down : Bool
  exp : Bs
  ok : Bool
def wholeOk (w : Bs) : Bool := decide (w = [48] ∨ w.head? ≠ some 48)
def rpartsW (neg : Bool) (m : Bs) : RParts :=
  let mant := m.takeWhile notE
  let tl := m.dropWhile notE
  let whole := mant.takeWhile notPt
  let pt := mant.dropWhile notPt
  ⟨neg, whole, rfrac pt, (rexp tl).1, (rexp tl).2, digs whole && digs (rrest pt) && digs (rexp tl).2 && wholeOk whole⟩
def rpartsM (l : Bs) : RParts := if (l.head? == some 45) = true then rpartsW true l.tail else rpartsW false l
/-- the power that the program keeps, where the document keeps this exponent -/
def SamePow (x pw : Bs) : Prop := pw = x ∨ (x = [48] ∧ pw = [])
def Fits (r : RParts) (o : Option Parts) : Prop :=
  (r.ok = false ∧ o = none) ∨ (r.ok = true ∧ ∃ pw, o = some ⟨r.neg, r.whole, r.frac, r.down, pw⟩ ∧ SamePow r.exp pw)

theorem dig_notE {c : UInt8} (h : isDig c = true) : notE c = true ∧ notPt c = true := by
  unfold isDig at h
  simp only [Bool.and_eq_true, decide_eq_true_eq] at h
  unfold notE notPt
  constructor
  · cases h1 : (c == 101 || c == 69) with
    | false => rfl
    | true =>
      simp only [Bool.or_eq_true, beq_iff_eq] at h1
      rcases h1 with h1 | h1 <;> (rw [h1] at h; simp at h)
  · cases h1 : (c == 46) with
    | false => rfl
    | true =>
      simp only [beq_iff_eq] at h1
      rw [h1] at h; simp at h
theorem tw_append {p : UInt8 → Bool} {a : Bs} (b : Bs) (h : a.all p = true) : (a ++ b).takeWhile p = a ++ b.takeWhile p ∧ (a ++ b).dropWhile p = b.dropWhile p := by
  induction a with
  | nil => exact ⟨rfl, rfl⟩
  | cons c a ih =>
    simp only [List.all_cons, Bool.and_eq_true] at h
    obtain ⟨h1, h2⟩ := ih h.2
    exact ⟨by rw [List.cons_append, List.takeWhile_cons, if_pos h.1, h1]; rfl, by rw [List.cons_append, List.dropWhile_cons, if_pos h.1, h2]⟩
theorem all_imp {p q : UInt8 → Bool} {a : Bs} (h : ∀ c, p c = true → q c = true) (ha : a.all p = true) : a.all q = true := by
  rw [List.all_eq_true] at *
  exact fun x hx => h x (ha x hx)
theorem head_drop {p : UInt8 → Bool} (l : Bs) {c : UInt8} {r : Bs} (h : l.dropWhile p = c :: r) : p c = false := by
  induction l with
  | nil => cases h
  | cons x l ih =>
    rw [List.dropWhile_cons] at h
    split at h
    · exact ih h
    · rename_i hx
      injection h with h1 h2
      rw [← h1]; simpa using hx
theorem digs_no {a b : Bs} {c : UInt8} (h : isDig c = false) : digs (a ++ c :: b) = false := by
  unfold digs
  refine decide_eq_false (fun hh => ?_)
  have := hh.2
  rw [List.all_append, List.all_cons, h] at this
  simp at this
theorem wholeOk_eq (w : Bs) (h : w.all isDig = true) : (digs w && wholeOk w) = decide (¬ (w = [] ∨ (1 < w.length ∧ w.head? = some 48))) := by
  unfold digs wholeOk
  rw [← Bool.decide_and]
  refine decide_eq_decide.2 ?_
  cases w with
  | nil => simp
  | cons c l =>
    cases l with
    | nil =>
      simp only [List.head?_cons, Option.some.injEq, List.length_cons, List.length_nil]
      constructor
      · intro _ hh; rcases hh with hh | hh
        · cases hh
        · omega
      · intro _
        refine ⟨⟨by simp, h⟩, ?_⟩
        by_cases hc : c = 48
        · left; rw [hc]
        · right; simpa using hc
    | cons d l =>
      constructor
      · rintro ⟨⟨_, _⟩, hh⟩ h2
        rcases h2 with h2 | h2
        · cases h2
        · rcases hh with hh | hh
          · injection hh with _ hh; cases hh
          · exact hh h2.2
      · intro hh
        refine ⟨⟨by simp, h⟩, .inr (fun h2 => hh (.inr ⟨by simp, h2⟩))⟩
/-- behind the mantissa: what the program does with e's tail is what the document does -/
theorem splitExp_fits (p : Parts) (c : UInt8) (r : Bs) :
    (digs (rexp (c :: r)).2 = false ∧ splitExp p r = none) ∨ (digs (rexp (c :: r)).2 = true ∧ splitExp p r = some { p with down := (rexp (c :: r)).1, power := (rexp (c :: r)).2 }) := by
  have key : ∀ (d : Bool) (x : Bs), (digs x = false ∧ splitFin p d x = none) ∨ (digs x = true ∧ splitFin p d x = some { p with down := d, power := x }) := by
    intro d x
    unfold digs splitFin
    by_cases h : x ≠ [] ∧ x.all isDig = true
    · exact .inr ⟨decide_eq_true h, if_pos h⟩
    · exact .inl ⟨decide_eq_false h, if_neg h⟩
  unfold splitExp rexp
  by_cases h : (r.head? == some 45) = true
  · rw [if_pos h]; simp only [h]; exact key _ _
  · rw [if_neg h]; simp only [if_neg h]; exact key _ _
theorem isE_of {c : UInt8} (h : notE c = false) : c = 101 ∨ c = 69 := by
  unfold notE at h
  cases hc : (c == 101 || c == 69) with
  | false => rw [hc] at h; cases h
  | true => simpa only [Bool.or_eq_true, beq_iff_eq] using hc
theorem notE_of {c : UInt8} (h : notE c = true) : ¬ (c = 101 ∨ c = 69) := by
  unfold notE at h
  simpa using h
/-- behind the digits of the fraction, or of the whole: the rest must be nothing, or an exponent -/
theorem splitTail_fits (p : Parts) (hp : p.down = false ∧ p.power = []) (l : Bs) (hl : ∀ c r, l = c :: r → isDig c = false) :
    (l.takeWhile notE = [] ∧ ((digs (rexp (l.dropWhile notE)).2 = false ∧ splitTail p l = none) ∨ (digs (rexp (l.dropWhile notE)).2 = true ∧ ∃ pw, splitTail p l = some { p with down := (rexp (l.dropWhile notE)).1, power := pw } ∧ SamePow (rexp (l.dropWhile notE)).2 pw))) ∨
    (∃ c r, l.takeWhile notE = c :: r ∧ isDig c = false ∧ l.head? = some c ∧ splitTail p l = none) := by
  cases l with
  | nil =>
    left
    refine ⟨rfl, .inr ⟨by decide, [], ?_, .inr ⟨rfl, rfl⟩⟩⟩
    obtain ⟨a, b, c, d, e⟩ := p
    obtain ⟨h1, h2⟩ := hp
    simp only at h1 h2
    subst h1; subst h2
    rfl
  | cons c r =>
    have hc := hl c r rfl
    have e : splitTail p (c :: r) = if c = 101 ∨ c = 69 then splitExp p r else none := rfl
    cases hE : notE c with
    | false =>
      left
      have h1 : (c :: r).dropWhile notE = c :: r := by rw [List.dropWhile_cons, if_neg (by rw [hE]; simp)]
      rw [h1, e, if_pos (isE_of hE)]
      refine ⟨by rw [List.takeWhile_cons, if_neg (by rw [hE]; simp)], ?_⟩
      rcases splitExp_fits p c r with h | h
      · exact .inl h
      · exact .inr ⟨h.1, _, h.2, .inl rfl⟩
    | true =>
      right
      exact ⟨c, r.takeWhile notE, by rw [List.takeWhile_cons, if_pos hE], hc, rfl, by rw [e, if_neg (notE_of hE)]⟩
theorem parts_whole (neg : Bool) (m : Bs) : Fits (rpartsW neg m) (splitWhole neg m) := by
  have hA := takeWhile_all m
  have hm := List.takeWhile_append_dropWhile (p := isDig) (l := m)
  have hB : ∀ c r, m.dropWhile isDig = c :: r → isDig c = false := fun c r h => head_drop m h
  unfold splitWhole rpartsW
  simp only
  generalize m.takeWhile isDig = A at *
  generalize m.dropWhile isDig = B at *
  subst hm
  obtain ⟨e1, e2⟩ := tw_append B (all_imp (q := notE) (fun c h => (dig_notE h).1) hA)
  rw [e1, e2]
  obtain ⟨e3, e4⟩ := tw_append (B.takeWhile notE) (all_imp (q := notPt) (fun c h => (dig_notE h).2) hA)
  rw [e3, e4]
  have hw := wholeOk_eq A hA
  -- the whole's own test
  have close : ∀ (rest frac : Bs) (x : Bool × Bs) (o : Option Parts),
      ((digs rest && digs x.2) = false ∧ o = none) ∨ ((digs rest && digs x.2) = true ∧ ∃ pw, o = some ⟨neg, A, frac, x.1, pw⟩ ∧ SamePow x.2 pw) →
      Fits ⟨neg, A, frac, x.1, x.2, digs A && digs rest && digs x.2 && wholeOk A⟩ (if A = [] ∨ (1 < A.length ∧ A.head? = some 48) then none else o) := by
    intro rest frac x o h
    have hb : (digs A && digs rest && digs x.2 && wholeOk A) = ((digs A && wholeOk A) && (digs rest && digs x.2)) := by
      cases digs A <;> cases digs rest <;> cases digs x.2 <;> cases wholeOk A <;> rfl
    unfold Fits
    simp only [hb, hw]
    by_cases hbad : A = [] ∨ (1 < A.length ∧ A.head? = some 48)
    · rw [if_pos hbad, decide_eq_false (fun hh => hh hbad)]
      exact .inl ⟨rfl, rfl⟩
    · rw [if_neg hbad, decide_eq_true hbad]
      simpa using h
  have closeN : ∀ (whole rest frac : Bs) (x : Bool × Bs) (o : Option Parts), digs whole = false → o = none → Fits ⟨neg, whole, frac, x.1, x.2, digs whole && digs rest && digs x.2 && wholeOk whole⟩ (if A = [] ∨ (1 < A.length ∧ A.head? = some 48) then none else o) := by
    intro whole rest frac x o h ho
    refine .inl ⟨?_, ?_⟩
    · simp [h]
    · rw [ho]; split <;> rfl
  cases B with
  | nil =>
    simp only [List.takeWhile_nil, List.dropWhile_nil, List.append_nil]
    refine close _ _ _ _ (.inr ⟨by decide, [], rfl, .inr ⟨rfl, rfl⟩⟩)
  | cons c r =>
    have hc := hB c r rfl
    by_cases h46 : c = 46
    · subst h46
      have f1 : (46 :: r).takeWhile notE = 46 :: r.takeWhile notE := by rw [List.takeWhile_cons]; rfl
      have f2 : (46 :: r).dropWhile notE = r.dropWhile notE := by rw [List.dropWhile_cons]; rfl
      have f3 : (46 :: r.takeWhile notE).takeWhile notPt = [] := by rw [List.takeWhile_cons]; rfl
      have f4 : (46 :: r.takeWhile notE).dropWhile notPt = 46 :: r.takeWhile notE := by rw [List.dropWhile_cons]; rfl
      rw [f1, f2, f3, f4, List.append_nil]
      have hF := takeWhile_all r
      have hr := List.takeWhile_append_dropWhile (p := isDig) (l := r)
      have hG : ∀ c t, r.dropWhile isDig = c :: t → isDig c = false := fun c t h => head_drop r h
      unfold splitFrac
      simp only [rrest, rfrac]
      generalize r.takeWhile isDig = F at *
      generalize r.dropWhile isDig = G at *
      subst hr
      obtain ⟨g1, g2⟩ := tw_append G (all_imp (q := notE) (fun c h => (dig_notE h).1) hF)
      rw [g1, g2]
      refine close _ _ _ _ ?_
      rcases splitTail_fits ⟨neg, A, F, false, []⟩ ⟨rfl, rfl⟩ G hG with ⟨h1, h2⟩ | ⟨c, t, h1, h2, _, h3⟩
      · rw [h1, List.append_nil]
        by_cases hF0 : F = []
        · left
          rw [if_pos hF0, hF0]
          exact ⟨by simp [digs], rfl⟩
        · have hd : digs F = true := decide_eq_true ⟨hF0, hF⟩
          rw [if_neg hF0, hd, Bool.true_and]
          exact h2
      · left
        rw [h1, digs_no h2]
        refine ⟨rfl, ?_⟩
        split
        · rfl
        · exact h3
    · have hsf : splitFrac ⟨neg, A, [], false, []⟩ (c :: r) = splitTail ⟨neg, A, [], false, []⟩ (c :: r) := by
        unfold splitFrac
        split
        · rename_i heq; injection heq with heq _; exact absurd heq h46
        · rfl
      rw [hsf]
      rcases splitTail_fits ⟨neg, A, [], false, []⟩ ⟨rfl, rfl⟩ (c :: r) (fun x y hxy => hB x y hxy) with ⟨h1, h2⟩ | ⟨d, t, h1, h2, h0, h3⟩
      · rw [h1]
        simp only [List.takeWhile_nil, List.dropWhile_nil, List.append_nil]
        refine close _ _ _ _ ?_
        rw [show digs (rrest []) = true by decide, Bool.true_and]
        exact h2
      · injection h0 with h0
        subst h0
        have f5 : notPt c = true := by unfold notPt; simp [h46]
        rw [h1, List.takeWhile_cons, if_pos f5]
        exact closeN _ _ _ _ _ (digs_no h2) h3
theorem parts_fits (l : Bs) : Fits (rpartsM l) (splitM l) := by
  unfold rpartsM splitM
  by_cases h : (l.head? == some 45) = true
  · rw [if_pos h, if_pos h]; exact parts_whole _ _
  · rw [if_neg h, if_neg h]; exact parts_whole _ _
end Go.Proofs.YtmomildkopainaaDoor

namespace Go.Proofs.YtmomildkopainaaDoor
open Go.RowKit

/-- noughts ahead of an exponent, all but one -/
def stripZ : Bs → Bs
  | a :: b :: l => if a = 48 then stripZ (b :: l) else a :: b :: l
  | l => l
def rnum (neg : Bool) (down : Bool) (x frac d : Bs) : Dec × Int :=
  let s := stripR d
  let e := (if down then - numOf x else numOf x) - frac.length + d.length - s.length
  if d = [] then (.zero, 0) else if e < -1000000 ∨ 1000000 < e then (.zero, 4) else (⟨neg, s, e⟩, 0)
def rparseM (l : Bs) : Dec × Int :=
  let p := rpartsM l
  if p.ok = false then (.zero, 2) else if 1000 < p.whole.length + p.frac.length then (.zero, 3)
  else if 9 < (stripZ p.exp).length then (.zero, 4) else rnum p.neg p.down (stripZ p.exp) p.frac (stripL (p.whole ++ p.frac))

theorem stripL_cons (c : UInt8) (l : Bs) : stripL (c :: l) = if c = 48 then stripL l else c :: l := by
  unfold stripL Lib.trimLeftB
  rw [List.dropWhile_cons]
  by_cases h : c = 48
  · rw [if_pos h, if_pos (by simp [h])]
  · rw [if_neg h, if_neg (by simp [h])]
theorem numOf_nought (l : Bs) : numOf (48 :: l) = numOf l := by unfold numOf; rfl
theorem stripZ_nil : ∀ l : Bs, stripL l = [] → stripZ l = if l = [] then [] else [48]
  | [], _ => rfl
  | [a], h => by
    rw [stripL_cons] at h
    split at h
    · rename_i h1; subst h1; rfl
    · cases h
  | a :: b :: l, h => by
    rw [stripL_cons] at h
    split at h
    · rename_i h1
      have := stripZ_nil (b :: l) h
      simp only [stripZ, if_pos h1, this]
      rfl
    · cases h
theorem stripZ_not : ∀ l : Bs, stripL l ≠ [] → stripZ l = stripL l
  | [], h => absurd rfl h
  | [a], h => by
    rw [stripL_cons] at h ⊢
    split
    · rename_i h1; rw [if_pos h1] at h; exact absurd rfl h
    · rfl
  | a :: b :: l, h => by
    rw [stripL_cons] at h ⊢
    simp only [stripZ]
    by_cases h1 : a = 48
    · rw [if_pos h1] at h ⊢
      rw [if_pos h1]
      exact stripZ_not (b :: l) h
    · rw [if_neg h1, if_neg h1]
theorem samePow_strip {x pw : Bs} (h : SamePow x pw) : numOf (stripZ x) = numOf (stripL pw) ∧ (9 < (stripZ x).length ↔ 9 < (stripL pw).length) := by
  rcases h with rfl | ⟨rfl, rfl⟩
  · by_cases hs : stripL pw = []
    · rw [stripZ_nil _ hs, hs]
      split
      · exact ⟨rfl, Iff.rfl⟩
      · exact ⟨rfl, by simp⟩
    · rw [stripZ_not _ hs]
      exact ⟨rfl, Iff.rfl⟩
  · exact ⟨rfl, by simp [stripZ, stripL, Lib.trimLeftB]⟩
theorem stripL_head : ∀ l : Bs, (stripL l).head? ≠ some 48
  | [] => by simp [stripL, Lib.trimLeftB]
  | c :: l => by
    rw [stripL_cons]
    split
    · exact stripL_head l
    · rename_i h; simpa using h
theorem mem_tw {p : UInt8 → Bool} : ∀ {l : Bs} {x : UInt8}, x ∈ l.takeWhile p → p x = true
  | [], x, h => by simp at h
  | c :: l, x, h => by
    rw [List.takeWhile_cons] at h
    split at h
    · rename_i hc
      rcases List.mem_cons.1 h with h | h
      · rw [h]; exact hc
      · exact mem_tw h
    · simp at h
theorem stripR_ne {d : Bs} (h : d ≠ []) (hh : d.head? ≠ some 48) : stripR d ≠ [] := by
  intro h2
  cases d with
  | nil => exact h rfl
  | cons c l =>
    have h3 : c ≠ 48 := by simpa using hh
    unfold stripR Lib.trimRightB at h2
    have h4 : ((c :: l).reverse.dropWhile fun x => x == 48) = [] := by
      have := congrArg List.reverse h2
      rwa [List.reverse_reverse] at this
    have h6 := List.takeWhile_append_dropWhile (p := fun x : UInt8 => x == 48) (l := (c :: l).reverse)
    rw [h4, List.append_nil] at h6
    have h5 : c ∈ (c :: l).reverse.takeWhile fun x => x == 48 := by rw [h6]; simp
    have h7 := mem_tw h5
    exact h3 (by simpa using h7)
theorem rnum_right (neg down : Bool) (whole frac pw x : Bs) (hx : numOf x = numOf pw) (hw : (whole ++ frac).all isDig = true) (hl : whole.length + frac.length ≤ 1000) :
    rnum neg down x frac (stripL (whole ++ frac)) = (if (numM neg whole frac down pw).right = true then (numM neg whole frac down pw, 0) else (.zero, 4)) := by
  have hh := stripL_head (whole ++ frac)
  have hle := stripL_le (whole ++ frac)
  have hda := stripL_all hw
  rw [List.length_append] at hle
  unfold rnum numM
  simp only
  generalize stripL (whole ++ frac) = d at *
  rw [hx]
  generalize hE : (if down = true then -numOf pw else numOf pw) - (frac.length : Int) + (d.length : Int) - ((stripR d).length : Int) = e
  by_cases h0 : d = []
  · rw [if_pos h0]
    have : stripR d = [] := by rw [h0]; rfl
    rw [if_pos this]
    rfl
  · rw [if_neg h0]
    have hs := stripR_ne h0 hh
    obtain ⟨t, ht⟩ := stripR_pre d
    have hlast := stripR_last d
    rw [if_neg hs]
    have hlen := congrArg List.length ht
    rw [List.length_append] at hlen
    generalize stripR d = s at *
    have hsd : s.all isDig = true := by rw [ht, List.all_append, Bool.and_eq_true] at hda; exact hda.1
    have hsh : s.head? ≠ some 48 := by
      cases s with
      | nil => exact absurd rfl hs
      | cons c l => rw [ht] at hh; exact hh
    have hp := List.length_pos_iff.2 hs
    have hr : (Dec.mk neg s e).right = decide (-1000000 ≤ e ∧ e ≤ 1000000) := by
      unfold Dec.right
      rw [if_neg (fun h => hs (congrArg Dec.digits h)), if_neg, if_neg]
      · unfold Dec.nought0; exact fun h => h.elim hsh hlast
      · unfold Dec.bad
        rintro (h | h | h)
        · simp only at h; omega
        · simp only at h; omega
        · simp only at h; rw [hsd] at h; cases h
    by_cases hb : e < -1000000 ∨ 1000000 < e
    · rw [if_pos hb, hr, decide_eq_false (by omega)]
      rfl
    · rw [if_neg hb, hr, decide_eq_true (by omega)]
      rfl
theorem rparseM_eq (l : Bs) : rparseM l = parseM l := by
  have hf := parts_fits l
  have hq := @splitM_parts l
  unfold rparseM parseM
  generalize rpartsM l = r at *
  generalize splitM l = o at *
  rcases hf with ⟨h1, h2⟩ | ⟨h1, pw, h2, h3⟩
  · subst h2
    simp only [h1]
    rfl
  · subst h2
    obtain ⟨h4, h5⟩ := samePow_strip h3
    obtain ⟨q1, q2, q3, q4⟩ := hq rfl
    simp only [h1] at *
    rw [if_neg (by simp)]
    by_cases hk : 1000 < r.whole.length + r.frac.length
    · rw [if_pos hk, if_pos hk]
    · rw [if_neg hk, if_neg hk]
      by_cases h9 : 9 < (stripL pw).length
      · rw [if_pos h9, if_pos (h5.2 h9)]
      · rw [if_neg h9, if_neg (fun h => h9 (h5.1 h))]
        exact rnum_right _ _ _ _ _ _ h4 (by rw [List.all_append, q2, q3]; rfl) (by omega)
end Go.Proofs.YtmomildkopainaaDoor

namespace Go.Proofs.YtmomildkopainaaDoor
open Go.RowKit

set_option maxHeartbeats 400000 in
set_option maxRecDepth 1000000 in
theorem rdigits_any (l : Bs) (w : World) (hl : l.length ≤ 1099511627776) :
    Calls Tryd.prog 128 #[.string (st l)] w fun e w' => e = .returned (.bool (decide (l ≠ [] ∧ l.all isDig = true))) ∧ w' = w := by
  generalize hR : decide (l ≠ [] ∧ l.all isDig = true) = R
  have HR := hq hR
  clear hR
  go_enter Tryd.func128, Tryd.ntmps128
  go_wp2
  go_loop [3] (fun a => ∃ k : Nat, a = .int .i64 k ∧ k ≤ l.length ∧ Hq ((l.take k).all isDig = true)) (fun a => l.length - (intOf a).toNat)
  case atStart => exact ⟨0, rfl, by omega, hq rfl⟩
  case round =>
    obtain ⟨k, rfl, hk, hd⟩ := hrel
    by_cases hlt : k < l.length
    · have hz : k < (st l).size := by rw [st_size]; exact hlt
      have hstep : Hq ((l.take (k + 1)).all isDig = (decide (48 ≤ ((st l)[k]'hz).toNat) && decide (((st l)[k]'hz).toNat ≤ 57))) := hq (by
        rw [List.take_succ_eq_append_getElem hlt, List.all_append, hd.o, Bool.true_and, List.all_cons, List.all_nil, Bool.and_true]
        rfl)
      have hno : Hq ((l.take (k + 1)).all isDig = false → R = false) := hq (fun h => by
        rw [← HR.o]
        refine decide_eq_false (fun hh => ?_)
        have := List.all_eq_true.1 hh.2
        rw [List.all_eq_false] at h
        obtain ⟨y, hy, hy2⟩ := h
        exact hy2 (this y (List.mem_of_mem_take hy)))
      generalize hx : ((st l)[k]'hz).toNat = x at hstep
      have hy : (((st l)[k]'hz).toNat : Int) = (x : Int) := by rw [hx]
      clear hx
      by_cases g1 : 48 ≤ x
      · by_cases g2 : x ≤ 57
        · have hnext : Hq ((l.take (k + 1)).all isDig = true) := hq (by rw [hstep.o]; simp [g1, g2])
          clear hstep hno hd
          go_wp2
          go_round
          case rel => exact ⟨k + 1, rfl, by omega, hnext⟩
          case measure => simp [intOf]; omega
        · have HN := hq (hno.o (by rw [hstep.o]; simp [g2]))
          clear hstep hno hd
          go_wp2
          go_ret
          exact ⟨by rw [HN.o]; rfl, rfl⟩
      · have HN := hq (hno.o (by rw [hstep.o]; simp [g1]))
        clear hstep hno hd
        go_wp2
        go_ret
        exact ⟨by rw [HN.o]; rfl, rfl⟩
    · have hkl : k = l.length := by omega
      have HN : Hq (R = decide (0 < l.length)) := hq (by
        rw [← HR.o]
        have := hd.o
        rw [hkl, List.take_length] at this
        refine decide_eq_decide.2 ⟨fun h => ?_, fun h => ⟨fun h2 => ?_, this⟩⟩
        · exact List.length_pos_iff.2 h.1
        · rw [h2] at h; simp at h)
      clear hd
      go_wp2
      go_ret
      exact ⟨by rw [HN.o]; rfl, rfl⟩
end Go.Proofs.YtmomildkopainaaDoor

namespace Go.Proofs.YtmomildkopainaaDoor
open Go.RowKit

theorem tw_is {p : UInt8 → Bool} (l : Bs) (k : Nat) (h : (l.take k).all p = true) (hk : ∀ hk : k < l.length, p l[k] = false) (hl : k ≤ l.length) : l.takeWhile p = l.take k ∧ l.dropWhile p = l.drop k := by
  have e : l = l.take k ++ l.drop k := (List.take_append_drop k l).symm
  have hd : (l.drop k).takeWhile p = [] ∧ (l.drop k).dropWhile p = l.drop k := by
    by_cases hlt : k < l.length
    · rw [List.drop_eq_getElem_cons hlt, List.takeWhile_cons, List.dropWhile_cons, hk hlt]
      exact ⟨rfl, rfl⟩
    · rw [List.drop_eq_nil_of_le (by omega)]; exact ⟨rfl, rfl⟩
  obtain ⟨a, b⟩ := tw_append (l.drop k) h
  constructor
  · conv => lhs; rw [e]
    rw [a, hd.1, List.append_nil]
  · conv => lhs; rw [e]
    rw [b, hd.2]
theorem get_st (l : Bs) (k : Nat) (h : k < (st l).size) : (st l)[k]'h = l[k]'(by rw [st_size] at h; exact h) := rfl
theorem notE_get (l : Bs) (k : Nat) (h : k < (st l).size) (h' : k < l.length) : notE l[k] = (!(((((st l)[k]'h).toNat : Int) == 101) || ((((st l)[k]'h).toNat : Int) == 69))) := by
  rw [get_st]
  unfold notE
  congr 2
  · rw [Bool.eq_iff_iff, beq_iff_eq, beq_iff_eq, ← UInt8.toNat_inj]
    show _ = 101 ↔ _
    omega
  · rw [Bool.eq_iff_iff, beq_iff_eq, beq_iff_eq, ← UInt8.toNat_inj]
    show _ = 69 ↔ _
    omega
theorem notPt_get (l : Bs) (k : Nat) (h : k < (st l).size) (h' : k < l.length) : notPt l[k] = (!((((st l)[k]'h).toNat : Int) == 46)) := by
  rw [get_st]
  unfold notPt
  congr 1
  rw [Bool.eq_iff_iff, beq_iff_eq, beq_iff_eq, ← UInt8.toNat_inj]
  show _ = 46 ↔ _
  omega
theorem take_all_succ {p : UInt8 → Bool} {l : Bs} {k : Nat} (h : (l.take k).all p = true) (hk : k < l.length) (hp : p l[k] = true) : (l.take (k + 1)).all p = true := by
  rw [List.take_succ_eq_append_getElem hk, List.all_append, h, List.all_cons, hp]; rfl

def RPartsPost (r : RParts) (w : World) (e : Ending) (w' : World) : Prop := e = .returned (.tuple #[.bool r.neg, .string (st r.whole), .string (st r.frac), .bool r.down, .string (st r.exp), .bool r.ok]) ∧ w' = w
theorem cons_first (c : UInt8) (r : Bs) (n : Nat) (hn : n < 256) : (((c :: r).head? == some (UInt8.ofNat n)) : Bool) = ((c.toNat : Int) == n) := by
  rw [Bool.eq_iff_iff, beq_iff_eq, beq_iff_eq, List.head?_cons, Option.some.injEq, ← UInt8.toNat_inj, UInt8.toNat_ofNat_of_lt' (by simpa using hn)]
  omega

theorem rdigs_any (l : Bs) (w : World) (hl : l.length ≤ 1099511627776) :
    Calls Tryd.prog 128 #[.string (st l)] w fun e w' => e = .returned (.bool (digs l)) ∧ w = w' :=
  (rdigits_any l w hl).mono fun _ _ ⟨h1, h2⟩ => ⟨h1, h2.symm⟩

set_option maxHeartbeats 4000000 in
set_option maxRecDepth 1000000 in
theorem rparts_any (l : Bs) (w : World) (hl : l.length ≤ 1099511627776) :
    Calls Tryd.prog 103 #[.string (st l)] w (RPartsPost (rpartsM l) w) := by
  generalize hR : rpartsM l = R
  have HR := hq hR
  clear hR
  go_enter Tryd.func103, Tryd.ntmps103
  go_upto_region 1 with fail
  go_cut [8] (fun n wx => n = .bool (l.head? == some 45) ∧ wx = w)
  case first =>
    cases l with
    | nil =>
      clear HR
      go_wp2_with fail
      go_meet
      exact ⟨rfl, rfl⟩
    | cons c r =>
      have hy : (((st (c :: r))[0]'(by rw [st_size]; simp)).toNat : Int) = (c.toNat : Int) := rfl
      have hf' : ((c :: r).head? == some (45 : UInt8)) = ((c.toNat : Int) == 45) := cons_first c r 45 (by omega)
      simp only [List.length_cons] at hl
      have HF := hq hf'
      clear HR hf'
      go_wp2_with fail
      go_meet
      exact ⟨congrArg Value.bool HF.o.symm, rfl⟩
  case rest =>
    obtain ⟨rfl, rfl⟩ := hcut
    have hh : ∃ (m : Bs) (neg : Bool), (l.head? == some 45) = neg ∧ m = (if neg = true then l.tail else l) ∧ R = rpartsW neg m ∧ m.length ≤ l.length ∧ (neg = true → 1 ≤ l.length) := by
      refine ⟨_, _, rfl, rfl, ?_, ?_, ?_⟩
      · rw [← HR.o]; unfold rpartsM; split <;> rename_i h <;> simp [h]
      · split
        · rw [List.length_tail]; omega
        · omega
      · cases l with
        | nil => intro h; cases h
        | cons c r => intro _; simp
    obtain ⟨m, neg, h1, h2, HN, hm, hn⟩ := hh
    rw [h1]
    have HN := hq HN
    have H2 := hq h2
    have HM : Hq (∀ x : ByteArray, (neg = true → x = (st l).extract 1 l.length) → (neg = false → x = st l) → x = st m) := hq (fun x hx hy => by
      rw [H2.o]
      cases neg with
      | true => rw [hx rfl, cut_right, if_pos rfl, List.drop_one]
      | false => rw [hy rfl, if_neg (by simp)])
    clear HR h1 h2 H2
    go_upto_if 23 with fail
    go_cut [0] (fun s wx => s = .string (st m) ∧ wx = wc)
    case first =>
      cases neg with
      | true =>
        have hn := hn rfl
        go_wp2_with fail
        go_meet
        exact ⟨congrArg Value.string (HM.o _ (fun _ => rfl) (fun h => by cases h)), rfl⟩
      | false =>
        go_wp2_with fail
        go_meet
        exact ⟨congrArg Value.string (HM.o _ (fun h => by cases h) (fun _ => rfl)), rfl⟩
    case rest =>
      obtain ⟨rfl, rfl⟩ := hcut
      clear HM hn
      go_wp2_with fail
      go_loopg [9] m.length (fun g a wx => ∃ k : Nat, a = .int .i64 k ∧ k + g = m.length ∧ Hq ((m.take k).all notE = true) ∧ wx = wc)
      case atStart => exact ⟨0, rfl, by omega, hq rfl, rfl⟩
      case round =>
        obtain ⟨k, rfl, hk, hd, rfl⟩ := hrel
        go_upto_region 5 with fail
        go_cut [41] from 26 to 43 (fun c wx => c = .bool (decide (k < m.length) && notE (m.getD k 101)) ∧ wx = wr)
        case first =>
          by_cases hlt : k < m.length
          · have hz : k < (st m).size := by rw [st_size]; exact hlt
            have hE : Hq (notE (m.getD k 101) = (!(((((st m)[k]'hz).toNat : Int) == 101) || ((((st m)[k]'hz).toNat : Int) == 69)))) := hq (by
              rw [← notE_get m k hz hlt]
              congr 1
              simp [List.getD, hlt])
            have hD : Hq (decide (k < m.length) = true) := hq (decide_eq_true hlt)
            generalize hx : ((st m)[k]'hz).toNat = x at hE
            have hy : (((st m)[k]'hz).toNat : Int) = (x : Int) := by rw [hx]
            clear hx HN
            by_cases g1 : x = 101
            · have e1 : ((x : Int) != 101) = false := by rw [g1]; rfl
              have HF := hq (show (decide (k < m.length) && notE (m.getD k 101)) = false by rw [hE.o, g1]; simp)
              clear hE g1
              go_wp2_with fail
              go_meet
              exact ⟨congrArg Value.bool HF.o.symm, rfl⟩
            · have e1 : ((x : Int) != 101) = true := bne_iff_ne.2 (by omega)
              have HF := hq (show (decide (k < m.length) && notE (m.getD k 101)) = ((x : Int) != 69) by
                rw [hE.o, hD.o, show ((x : Int) == 101) = false from beq_eq_false_iff_ne.2 (by omega), Bool.true_and, Bool.false_or]; rfl)
              clear hE g1
              go_wp2_with fail
              go_meet
              exact ⟨congrArg Value.bool HF.o.symm, rfl⟩
          · have hD : Hq (decide (k < m.length) = false) := hq (decide_eq_false hlt)
            go_wp2_with fail
            go_meet
            exact ⟨by rw [hD.o]; rfl, rfl⟩
        case rest =>
          obtain ⟨rfl, rfl⟩ := hcut
          have hnext : (decide (k < m.length) && notE (m.getD k 101)) = true → k < m.length ∧ (m.take (k + 1)).all notE = true := fun h => by
            rw [Bool.and_eq_true, decide_eq_true_iff] at h
            refine ⟨h.1, take_all_succ hd.o h.1 ?_⟩
            have := h.2
            simpa [List.getD, h.1] using this
          have hlast : (decide (k < m.length) && notE (m.getD k 101)) = false → m.takeWhile notE = m.take k ∧ m.dropWhile notE = m.drop k := fun h => by
            refine tw_is m k hd.o (fun hk => ?_) (by omega)
            rw [decide_eq_true hk, Bool.true_and] at h
            simpa [List.getD, hk] using h
          generalize (decide (k < m.length) && notE (m.getD k 101)) = B at *
          have HX := hq hnext
          have HL := hq hlast
          clear hnext hlast hd
          cases B with
          | true =>
            have hlt := (HX.o rfl).1
            have hd := hq (HX.o rfl).2
            clear HX HL
            go_wp2_with fail
            go_roundg (m.length - (k + 1))
            case rel => exact ⟨k + 1, rfl, by omega, hd, rfl⟩
            case measure => omega
          | false =>
            have HL := hq (HL.o rfl)
            clear HX
            have hkl : k ≤ m.length := by omega
            have HR : Hq (R = ⟨neg, (m.take k).takeWhile notPt, rfrac ((m.take k).dropWhile notPt), (rexp (m.drop k)).1, (rexp (m.drop k)).2, digs ((m.take k).takeWhile notPt) && digs (rrest ((m.take k).dropWhile notPt)) && digs (rexp (m.drop k)).2 && wholeOk ((m.take k).takeWhile notPt)⟩) := hq (by
              rw [HN.o]; unfold rpartsW; rw [HL.o.1, HL.o.2])
            clear HN HL hk
            have hxt : (rexp (m.drop k)).2.length ≤ 1099511627776 := by
              have hdl : (m.drop k).length ≤ 1099511627776 := by rw [List.length_drop]; omega
              cases hdk : m.drop k with
              | nil => simp [rexp]
              | cons a b =>
                rw [hdk, List.length_cons] at hdl
                have h1 : b.tail.length ≤ b.length := by rw [List.length_tail]; omega
                unfold rexp
                simp only
                split
                · simp only; omega
                · simp only; split <;> omega
            generalize hX : rexp (m.drop k) = X at HR hxt
            have HRX := hq hX
            clear hX
            go_upto_if 47 with fail
            go_cut [10, 11] (fun s d wx => s = .string (st X.2) ∧ d = .bool X.1 ∧ wx = wc)
            case first =>
              by_cases hlt : k < m.length
              · have hdr : m.drop k = m[k] :: m.drop (k + 1) := List.drop_eq_getElem_cons hlt
                have HD := hq hdr
                have HE : Hq (∀ x : ByteArray, x = (st m).extract (k + 1) m.length → x = st (m.drop (k + 1))) := hq (fun x hx => by rw [hx, cut_right])
                clear hdr HR
                go_upto_region 10 with fail
                go_cut [10] (fun s wx => s = .string (st (m.drop (k + 1))) ∧ wx = wc)
                case first =>
                  go_wp2_with fail
                  go_meet
                  exact ⟨congrArg Value.string (HE.o _ rfl), rfl⟩
                case rest =>
                  obtain ⟨rfl, rfl⟩ := hcut
                  rw [HD.o] at HRX
                  have hrl : (m.drop (k + 1)).length ≤ m.length := by rw [List.length_drop]; omega
                  clear HD HE
                  generalize m.drop (k + 1) = r at *
                  generalize m[k] = c0 at *
                  cases r with
                  | nil =>
                    go_wp2_with fail
                    go_meet
                    exact ⟨by rw [← HRX.o]; rfl, by rw [← HRX.o]; rfl, rfl⟩
                  | cons c r =>
                    have hy : (((st (c :: r))[0]'(by rw [st_size]; simp)).toNat : Int) = (c.toNat : Int) := rfl
                    have hf1 : ((c :: r).head? == some (45 : UInt8)) = ((c.toNat : Int) == 45) := cons_first c r 45 (by omega)
                    have hf2 : ((c :: r).head? == some (43 : UInt8)) = ((c.toNat : Int) == 43) := cons_first c r 43 (by omega)
                    have HE : Hq (∀ x : ByteArray, x = (st (c :: r)).extract 1 (c :: r).length → x = st r) := hq (fun x hx => by rw [hx, cut_right]; rfl)
                    have HX : Hq (X = if ((c.toNat : Int) == 45) = true then (true, r) else (false, if ((c.toNat : Int) == 43) = true then r else c :: r)) := hq (by
                      rw [← HRX.o]; unfold rexp; simp only [hf1, hf2]; rfl)
                    simp only [List.length_cons] at hrl
                    clear hf1 hf2 HRX
                    cases hb : ((c.toNat : Int) == 45) with
                    | true =>
                      have HX2 : Hq (X = (true, r)) := hq (by rw [HX.o, hb]; rfl)
                      clear HX
                      go_wp2_with fail
                      go_meet
                      exact ⟨by rw [HX2.o]; exact congrArg Value.string (HE.o _ rfl), by rw [HX2.o], rfl⟩
                    | false =>
                      cases hb2 : ((c.toNat : Int) == 43) with
                      | true =>
                        have HX2 : Hq (X = (false, r)) := hq (by rw [HX.o, hb, hb2]; rfl)
                        clear HX
                        go_wp2_with fail
                        go_meet
                        exact ⟨by rw [HX2.o]; exact congrArg Value.string (HE.o _ rfl), by rw [HX2.o], rfl⟩
                      | false =>
                        have HX2 : Hq (X = (false, c :: r)) := hq (by rw [HX.o, hb, hb2]; rfl)
                        clear HX
                        go_wp2_with fail
                        go_meet
                        exact ⟨by rw [HX2.o], by rw [HX2.o], rfl⟩
              · have HD : Hq (m.drop k = []) := hq (List.drop_eq_nil_of_le (by omega))
                go_wp2_with fail
                go_meet
                exact ⟨by rw [← HRX.o, HD.o]; rfl, by rw [← HRX.o, HD.o]; rfl, rfl⟩
            case rest =>
              obtain ⟨rfl, rfl, rfl⟩ := hcut
              clear HRX
              have hmt : (m.take k).length ≤ 1099511627776 := by rw [List.length_take]; omega
              obtain ⟨xd, xp⟩ := X
              simp only at HR hxt ⊢
              have HE : Hq (∀ x : ByteArray, x = (st m).extract 0 k → x = st (m.take k)) := hq (fun x hx => by rw [hx, cut_left])
              generalize m.take k = A at *
              go_upto_region 14 with fail
              go_cut [0] (fun s wx => s = .string (st A) ∧ wx = wc)
              case first =>
                go_wp2_with fail
                go_meet
                exact ⟨congrArg Value.string (HE.o _ rfl), rfl⟩
              case rest =>
                obtain ⟨rfl, rfl⟩ := hcut
                clear HE hkl hm HN HL
                go_wp2_with fail
                go_loopg [9] A.length (fun g a wx => ∃ k : Nat, a = .int .i64 k ∧ k + g = A.length ∧ Hq ((A.take k).all notPt = true) ∧ wx = wc)
                case atStart => exact ⟨0, rfl, by omega, hq rfl, rfl⟩
                case round =>
                  obtain ⟨k, rfl, hk, hd, rfl⟩ := hrel
                  go_upto_region 16 with fail
                  go_cut [85] from 76 to 87 (fun c wx => c = .bool (decide (k < A.length) && notPt (A.getD k 46)) ∧ wx = wr)
                  case first =>
                    by_cases hlt : k < A.length
                    · have hz : k < (st A).size := by rw [st_size]; exact hlt
                      have hE : Hq (notPt (A.getD k 46) = (!((((st A)[k]'hz).toNat : Int) == 46))) := hq (by
                        rw [← notPt_get A k hz hlt]
                        congr 1
                        simp [List.getD, hlt])
                      have hD : Hq (decide (k < A.length) = true) := hq (decide_eq_true hlt)
                      generalize hx : ((st A)[k]'hz).toNat = x at hE
                      have hy : (((st A)[k]'hz).toNat : Int) = (x : Int) := by rw [hx]
                      clear hx HR
                      have HF := hq (show (decide (k < A.length) && notPt (A.getD k 46)) = ((x : Int) != 46) by
                        rw [hE.o, hD.o, Bool.true_and]; rfl)
                      clear hE
                      go_wp2_with fail
                      go_meet
                      exact ⟨congrArg Value.bool HF.o.symm, rfl⟩
                    · have hD : Hq (decide (k < A.length) = false) := hq (decide_eq_false hlt)
                      go_wp2_with fail
                      go_meet
                      exact ⟨by rw [hD.o]; rfl, rfl⟩
                  case rest =>
                    obtain ⟨rfl, rfl⟩ := hcut
                    have hnext : (decide (k < A.length) && notPt (A.getD k 46)) = true → k < A.length ∧ (A.take (k + 1)).all notPt = true := fun h => by
                      rw [Bool.and_eq_true, decide_eq_true_iff] at h
                      refine ⟨h.1, take_all_succ hd.o h.1 ?_⟩
                      have := h.2
                      simpa [List.getD, h.1] using this
                    have hlast : (decide (k < A.length) && notPt (A.getD k 46)) = false → A.takeWhile notPt = A.take k ∧ A.dropWhile notPt = A.drop k := fun h => by
                      refine tw_is A k hd.o (fun hk => ?_) (by omega)
                      rw [decide_eq_true hk, Bool.true_and] at h
                      simpa [List.getD, hk] using h
                    generalize (decide (k < A.length) && notPt (A.getD k 46)) = B at *
                    have HX := hq hnext
                    have HL := hq hlast
                    clear hnext hlast hd
                    cases B with
                    | true =>
                      have hlt := (HX.o rfl).1
                      have hd := hq (HX.o rfl).2
                      clear HX HL
                      go_wp2_with fail
                      go_roundg (A.length - (k + 1))
                      case rel => exact ⟨k + 1, rfl, by omega, hd, rfl⟩
                      case measure => omega
                    | false =>
                      have HL := hq (HL.o rfl)
                      clear HX
                      have hkl : k ≤ A.length := by omega
                      have HR2 : Hq (R = ⟨neg, A.take k, rfrac (A.drop k), xd, xp, digs (A.take k) && digs (rrest (A.drop k)) && digs xp && wholeOk (A.take k)⟩) := hq (by
                        rw [HR.o, HL.o.1, HL.o.2])
                      clear HL hk HR
                      have HE : Hq (∀ x : ByteArray, x = (st A).extract 0 k → x = st (A.take k)) := hq (fun x hx => by rw [hx, cut_left])
                      have hWl : (A.take k).length ≤ 1099511627776 := by rw [List.length_take]; omega
                      go_upto_region 18 with fail
                      go_cut [12] (fun s wx => s = .string (st (A.take k)) ∧ wx = wc)
                      case first =>
                        clear HR2
                        go_wp2_with fail
                        go_meet
                        exact ⟨congrArg Value.string (HE.o _ rfl), rfl⟩
                      case rest =>
                        obtain ⟨rfl, rfl⟩ := hcut
                        clear HE
                        go_upto_if 94 with fail
                        go_cut [13] (fun s wx => s = .string (st (rrest (A.drop k))) ∧ wx = wc)
                        case first =>
                          clear HR2
                          by_cases hlt : k < A.length
                          · have HE : Hq (∀ x : ByteArray, x = (st A).extract (k + 1) A.length → x = st (rrest (A.drop k))) := hq (fun x hx => by rw [hx, cut_right, List.drop_eq_getElem_cons hlt]; rfl)
                            go_wp2_with fail
                            go_meet
                            exact ⟨congrArg Value.string (HE.o _ rfl), rfl⟩
                          · have HD : Hq (A.drop k = []) := hq (List.drop_eq_nil_of_le (by omega))
                            go_wp2_with fail
                            go_meet
                            exact ⟨by rw [HD.o]; rfl, rfl⟩
                        case rest =>
                          obtain ⟨rfl, rfl⟩ := hcut
                          have hrl : (rrest (A.drop k)).length ≤ 1099511627776 := by
                            cases hdk : A.drop k with
                            | nil => simp [rrest]
                            | cons a b =>
                              have := congrArg List.length hdk
                              rw [List.length_drop, List.length_cons] at this
                              show b.length ≤ _
                              omega
                          have hA : k < A.length → rfrac (A.drop k) = rrest (A.drop k) := fun h => by rw [List.drop_eq_getElem_cons h]; rfl
                          have hB : ¬ k < A.length → rfrac (A.drop k) = [] := fun h => by rw [List.drop_eq_nil_of_le (by omega)]; rfl
                          have HA : Hq (k < A.length → R = ⟨neg, A.take k, rrest (A.drop k), xd, xp, digs (A.take k) && digs (rrest (A.drop k)) && digs xp && wholeOk (A.take k)⟩) := hq (fun h => by rw [HR2.o, hA h])
                          have HB : Hq (¬ k < A.length → R = ⟨neg, A.take k, [], xd, xp, digs (A.take k) && digs (rrest (A.drop k)) && digs xp && wholeOk (A.take k)⟩) := hq (fun h => by rw [HR2.o, hB h])
                          clear hA hB HR2
                          generalize rrest (A.drop k) = Q at *
                          generalize hW : A.take k = W at *
                          clear hW
                          go_upto_region 22 with fail
                          go_cut [14] (fun c wx => c = .bool (digs W && digs Q && digs xp && wholeOk W) ∧ wx = wc)
                          case first =>
                            clear HA HB
                            go_wp2_with fail
                            refine (rdigs_any W _ hWl).mono ?_
                            cases h1 : digs W with
                            | false =>
                              rintro e w1 ⟨rfl, rfl⟩
                              go_wp2_with fail
                              go_meet
                              exact ⟨congrArg Value.bool (by simp [h1]), rfl⟩
                            | true =>
                              rintro e w1 ⟨rfl, rfl⟩
                              go_wp2_with fail
                              refine (rdigs_any Q _ hrl).mono ?_
                              cases h2 : digs Q with
                              | false =>
                                rintro e w1 ⟨rfl, rfl⟩
                                go_wp2_with fail
                                go_meet
                                exact ⟨congrArg Value.bool (by simp [h2]), rfl⟩
                              | true =>
                                rintro e w1 ⟨rfl, rfl⟩
                                go_wp2_with fail
                                refine (rdigs_any xp _ hxt).mono ?_
                                cases h3 : digs xp with
                                | false =>
                                  rintro e w1 ⟨rfl, rfl⟩
                                  go_wp2_with fail
                                  go_meet
                                  exact ⟨congrArg Value.bool (by simp [h3]), rfl⟩
                                | true =>
                                  rintro e w1 ⟨rfl, rfl⟩
                                  have hp : 0 < W.length := by
                                    have := of_decide_eq_true h1
                                    exact List.length_pos_iff.2 this.1
                                  have hz : 0 < (st W).size := by rw [st_size]; exact hp
                                  have HW : Hq ((digs W && digs Q && digs xp && wholeOk W) = (W == [48] || ((((st W)[0]'hz).toNat : Int) != 48))) := hq (by
                                    rw [h1, h2, h3, Bool.true_and, Bool.true_and, Bool.true_and, get_st]
                                    unfold wholeOk
                                    cases W with
                                    | nil => simp at hp
                                    | cons c t =>
                                      rw [Bool.eq_iff_iff, decide_eq_true_iff, Bool.or_eq_true, beq_iff_eq, bne_iff_ne, List.head?_cons]
                                      refine or_congr Iff.rfl ?_
                                      show (some c ≠ some 48) ↔ ((c.toNat : Int) ≠ 48)
                                      rw [Ne, Option.some.injEq, ← UInt8.toNat_inj]
                                      show ¬ c.toNat = 48 ↔ _
                                      omega)
                                  clear h1 h2 h3
                                  by_cases e48 : W = [48]
                                  · subst e48
                                    go_wp2_with fail
                                    go_meet
                                    exact ⟨congrArg Value.bool (HW.o.trans rfl).symm, rfl⟩
                                  · have e49 : (W == [48]) = false := beq_eq_false_iff_ne.2 e48
                                    have HW2 : Hq ((digs W && digs Q && digs xp && wholeOk W) = ((((st W)[0]'hz).toNat : Int) != 48)) := hq (by rw [HW.o, e49, Bool.false_or])
                                    clear HW
                                    have e50 : ¬ W = [48] := e48
                                    go_wp2_with fail
                                    go_meet
                                    exact ⟨congrArg Value.bool HW2.o.symm, rfl⟩
                          case rest =>
                            obtain ⟨rfl, rfl⟩ := hcut
                            generalize (digs W && digs Q && digs xp && wholeOk W) = OK at *
                            by_cases hlt : k < A.length
                            · have HN := hq (HA.o hlt)
                              clear HA HB
                              go_wp2_with fail
                              refine bodyPost_ret (v := .tuple #[.bool neg, .string (st W), .string (st Q), .bool xd, .string (st xp), .bool OK]) ?_ rfl ?_
                              · simp [results, Tryd.results103, go_sem]
                              · exact ⟨by rw [HN.o], rfl⟩
                            · have HN := hq (HB.o hlt)
                              clear HA HB
                              have hke : k = A.length := by omega
                              subst hke
                              go_wp2_with fail
                              refine bodyPost_ret (v := .tuple #[.bool neg, .string (st W), .string (st []), .bool xd, .string (st xp), .bool OK]) ?_ rfl ?_
                              · simp [results, Tryd.results103, go_sem]
                              · exact ⟨by rw [HN.o], rfl⟩
end Go.Proofs.YtmomildkopainaaDoor

namespace Go.Proofs.YtmomildkopainaaDoor
open Go.RowKit

theorem stripZ_step (c d : UInt8) (x : Bs) : stripZ (c :: d :: x) = if c = 48 then stripZ (d :: x) else c :: d :: x := by rw [stripZ]
def zeroAhead : Bs → Bool
  | c :: _ :: _ => (c.toNat : Int) == 48
  | _ => false
theorem zeroAhead_no {x : Bs} (h : zeroAhead x = false) : stripZ x = x := by
  cases x with
  | nil => rfl
  | cons c x =>
    cases x with
    | nil => rfl
    | cons d x =>
      have h1 : ((c.toNat : Int) == 48) = false := h
      rw [stripZ_step, if_neg]
      intro hc
      subst hc
      simp at h1
theorem zeroAhead_yes {x : Bs} (h : zeroAhead x = true) : stripZ x = stripZ x.tail ∧ x.tail.length + 1 = x.length := by
  cases x with
  | nil => cases h
  | cons c x =>
    cases x with
    | nil => cases h
    | cons d x =>
      have h1 : ((c.toNat : Int) == 48) = true := h
      rw [beq_iff_eq] at h1
      have h2 : c = 48 := UInt8.toNat_inj.1 (show c.toNat = 48 by omega)
      rw [stripZ_step, if_pos h2]
      exact ⟨rfl, rfl⟩
def noughtAhead : Bs → Bool
  | c :: _ => (c.toNat : Int) == 48
  | _ => false
theorem noughtAhead_eq (c : UInt8) (x : Bs) : noughtAhead (c :: x) = true ↔ c = 48 := by
  show ((c.toNat : Int) == 48) = true ↔ _
  rw [beq_iff_eq, ← UInt8.toNat_inj]
  show _ ↔ c.toNat = 48
  omega
theorem noughtAhead_no {x : Bs} (h : noughtAhead x = false) : stripL x = x := by
  cases x with
  | nil => rfl
  | cons c x => rw [stripL_cons, if_neg (fun hc => by rw [(noughtAhead_eq c x).2 hc] at h; cases h)]
theorem noughtAhead_yes {x : Bs} (h : noughtAhead x = true) : stripL x = stripL x.tail ∧ x.tail.length + 1 = x.length := by
  cases x with
  | nil => cases h
  | cons c x => rw [stripL_cons, if_pos ((noughtAhead_eq c x).1 h)]; exact ⟨rfl, rfl⟩
theorem stripR_step (y : Bs) (c : UInt8) : stripR (y ++ [c]) = if c = 48 then stripR y else y ++ [c] := stripR_snoc y c
theorem snoc_of {y : Bs} (h : y ≠ []) : ∃ z c, y = z ++ [c] := ⟨y.dropLast, y.getLast h, (List.dropLast_concat_getLast h).symm⟩
theorem dig_sub {c : Nat} (h : 48 ≤ c) (h' : c ≤ 57) : IntKind.u8.wrap ((c : Int) - 48) = (c : Int) - 48 := by
  unfold IntKind.wrap
  simp [IntKind.bits, IntKind.signed]
  omega

theorem rexp_facts (l : Bs) : (rexp l).2.length ≤ l.length + 1 := by
  cases l with
  | nil => simp [rexp]
  | cons a b =>
    have h1 : b.tail.length ≤ b.length := by rw [List.length_tail]; omega
    unfold rexp
    simp only [List.length_cons]
    split
    · simp only; omega
    · simp only; split <;> omega
theorem rpartsW_len (neg : Bool) (m : Bs) : (rpartsW neg m).whole.length ≤ m.length ∧ (rpartsW neg m).frac.length ≤ m.length ∧ (rpartsW neg m).exp.length ≤ m.length + 1 ∧ ((rpartsW neg m).ok = true → (rpartsW neg m).exp.all isDig = true) := by
  unfold rpartsW
  simp only
  have h1 := (List.takeWhile_prefix notE (l := m)).length_le
  have h2 := (List.takeWhile_prefix notPt (l := m.takeWhile notE)).length_le
  have h3 := (List.dropWhile_suffix notPt (l := m.takeWhile notE)).length_le
  have h4 := (List.dropWhile_suffix notE (l := m)).length_le
  have h5 := rexp_facts (m.dropWhile notE)
  have h6 : (rfrac ((m.takeWhile notE).dropWhile notPt)).length ≤ ((m.takeWhile notE).dropWhile notPt).length := by
    cases (m.takeWhile notE).dropWhile notPt with
    | nil => simp [rfrac]
    | cons a b => simp [rfrac]
  refine ⟨by omega, by omega, by omega, fun h => ?_⟩
  simp only [Bool.and_eq_true] at h
  exact (of_decide_eq_true h.1.2).2
theorem rpartsM_len (l : Bs) : (rpartsM l).whole.length ≤ l.length ∧ (rpartsM l).frac.length ≤ l.length ∧ (rpartsM l).exp.length ≤ l.length + 1 ∧ ((rpartsM l).ok = true → (rpartsM l).exp.all isDig = true) := by
  unfold rpartsM
  split
  · obtain ⟨a, b, c, d⟩ := rpartsW_len true l.tail
    rw [List.length_tail] at a b c
    exact ⟨by omega, by omega, by omega, d⟩
  · exact rpartsW_len false l
def PPost (r : Dec × Int) (w : World) (e : Ending) (w' : World) : Prop := e = .returned (.tuple #[r.1.val, .int .i64 r.2]) ∧ Below w.heap.size w w'

set_option maxHeartbeats 4000000 in
set_option maxRecDepth 1000000 in
theorem rparse_any (l : Bs) (w : World) (hl : l.length ≤ 1099511627776) :
    Calls Tryd.prog 72 #[.string (st l)] w (PPost (parseM l) w) := by
  rw [← rparseM_eq]
  generalize hR : rparseM l = R
  have HR := hq hR
  clear hR
  go_enter Tryd.func72, Tryd.ntmps72
  have hW := Whole.made w 122 #[.bool false, .string (st []), .int .i64 0]
  have hb := below_alloc w (.cells #[.bool false, .string (st []), .int .i64 0] 122)
  go_wp2_with fail
  refine (rparts_any l _ hl).mono ?_
  rintro e w1 ⟨rfl, hw1⟩
  obtain rfl := hw1.symm
  have HR2 : Hq (R = (if (rpartsM l).ok = false then (.zero, 2) else if 1000 < (rpartsM l).whole.length + (rpartsM l).frac.length then (.zero, 3)
    else if 9 < (stripZ (rpartsM l).exp).length then (.zero, 4) else rnum (rpartsM l).neg (rpartsM l).down (stripZ (rpartsM l).exp) (rpartsM l).frac (stripL ((rpartsM l).whole ++ (rpartsM l).frac)))) := hq HR.o.symm
  have hlen : (rpartsM l).whole.length ≤ 1099511627776 ∧ (rpartsM l).frac.length ≤ 1099511627776 ∧ (rpartsM l).exp.length ≤ 1099511627777 := by
    obtain ⟨a, b, c, _⟩ := rpartsM_len l
    exact ⟨by omega, by omega, by omega⟩
  have hdg : (rpartsM l).ok = true → (rpartsM l).exp.all isDig = true := (rpartsM_len l).2.2.2
  have HDG := hq hdg
  clear hdg
  generalize rpartsM l = q at *
  obtain ⟨neg, whole, frac, down, ex, ok⟩ := q
  simp only at HR2 hlen HDG ⊢
  clear HR
  obtain ⟨hl1, hl2, hl3⟩ := hlen
  generalize hWW : w.alloc (.cells #[.bool false, .string (st []), .int .i64 0] 122) = W at *
  clear hWW
  obtain ⟨r0, r1, r2⟩ := three_cells hW
  have q0 := hW.free 0
  have q1 := hW.free 1
  have q2 := hW.free 2
  cases ok with
  | false =>
    have HN := hq (HR2.o.trans (if_pos rfl))
    clear HR2
    go_wp2_with fail
    refine bodyPost_ret (v := .tuple #[Dec.zero.val, .int .i64 2]) ?_ rfl ?_
    · obtain ⟨z0, z1, z2⟩ := three_cells (by simpa using (((hW.put 0 (.bool false)).put 1 (.string ⟨#[]⟩)).put 2 (.int .i64 0)))
      simp [results, Tryd.results72, go_sem, z0, z1, z2, Dec.zero, Dec.val]
    · exact ⟨by rw [HN.o], ((hb.setCell (p := ⟨w.heap.size, 0, none⟩) (by simp) _).setCell (p := ⟨w.heap.size, 1, none⟩) (by simp) _).setCell (p := ⟨w.heap.size, 2, none⟩) (by simp) _⟩
  | true =>
    have HR3 := hq (HR2.o.trans (if_neg (by simp)))
    clear HR2
    by_cases hk : 1000 < whole.length + frac.length
    · have HN := hq (HR3.o.trans (if_pos hk))
      clear HR3
      go_wp2_with fail
      refine bodyPost_ret (v := .tuple #[Dec.zero.val, .int .i64 3]) ?_ rfl ?_
      · obtain ⟨z0, z1, z2⟩ := three_cells (by simpa using (((hW.put 0 (.bool false)).put 1 (.string ⟨#[]⟩)).put 2 (.int .i64 0)))
        simp [results, Tryd.results72, go_sem, z0, z1, z2, Dec.zero, Dec.val]
      · exact ⟨by rw [HN.o], ((hb.setCell (p := ⟨w.heap.size, 0, none⟩) (by simp) _).setCell (p := ⟨w.heap.size, 1, none⟩) (by simp) _).setCell (p := ⟨w.heap.size, 2, none⟩) (by simp) _⟩
    · have HR4 := hq (HR3.o.trans (if_neg hk))
      clear HR3
      go_wp2_with fail
      go_loopg [8] ex.length (fun g a wx => ∃ x : Bs, a = .string (st x) ∧ x.length = g ∧ x.length ≤ ex.length ∧ Hq (stripZ x = stripZ ex) ∧ Hq (x.all isDig = true) ∧ wx = W)
      case atStart => exact ⟨ex, rfl, rfl, by omega, hq rfl, hq (HDG.o (by trivial)), rfl⟩
      case round =>
        obtain ⟨x, rfl, hx, hxl, hsz, hxd, rfl⟩ := hrel
        have hx1 : x.length ≤ gk := by omega
        have hx2 : gk ≤ x.length := by omega
        clear hx
        go_upto_region 6 with fail
        go_cut [39] from 32 to 41 (fun c wx => c = .bool (zeroAhead x) ∧ wx = wr)
        case first =>
          clear HR4
          cases x with
          | nil =>
            go_wp2_with fail
            go_meet
            exact ⟨rfl, rfl⟩
          | cons c x =>
            cases x with
            | nil =>
              go_wp2_with fail
              go_meet
              exact ⟨rfl, rfl⟩
            | cons d x =>
              have hy : (((st (c :: d :: x))[0]'(by rw [st_size]; simp)).toNat : Int) = (c.toNat : Int) := rfl
              simp only [List.length_cons] at hx1 hx2 hxl
              go_wp2_with fail
              go_meet
              exact ⟨rfl, rfl⟩
        case rest =>
          obtain ⟨rfl, rfl⟩ := hcut
          have hY := @zeroAhead_yes x
          have hN := @zeroAhead_no x
          generalize zeroAhead x = B at *
          have HY := hq hY
          have HN := hq hN
          clear hY hN
          cases B with
          | true =>
            obtain ⟨e1, e2⟩ := HY.o rfl
            have HE := hq (e1.symm.trans hsz.o)
            have HT : Hq (x.tail.all isDig = true) := hq (by
              have := hxd.o
              rw [List.all_eq_true] at this ⊢
              exact fun y hy => this y (List.mem_of_mem_tail hy))
            have HC : Hq (∀ y : ByteArray, y = (st x).extract 1 x.length → y = st x.tail) := hq (fun y hy => by rw [hy, cut_right, List.drop_one])
            clear e1 HY HN hsz hxd
            go_wp2_with fail
            go_roundg (gk - 1)
            case rel => exact ⟨x.tail, congrArg Value.string (HC.o _ rfl), by omega, by omega, HE, HT, rfl⟩
            case measure => omega
          | false =>
            have HZ := hq ((HN.o rfl).symm.trans hsz.o)
            clear HY HN hsz
            clear HDG
            rw [← HZ.o] at HR4
            clear HZ hxl hx1 hx2
            by_cases h9 : 9 < x.length
            · have HN := hq (HR4.o.trans (if_pos h9))
              clear HR4
              go_wp2_with fail
              refine bodyPost_ret (v := .tuple #[Dec.zero.val, .int .i64 4]) ?_ rfl ?_
              · obtain ⟨z0, z1, z2⟩ := three_cells (by simpa using (((hW.put 0 (.bool false)).put 1 (.string ⟨#[]⟩)).put 2 (.int .i64 0)))
                simp [results, Tryd.results72, go_sem, z0, z1, z2, Dec.zero, Dec.val]
              · exact ⟨by rw [HN.o], ((hb.setCell (p := ⟨w.heap.size, 0, none⟩) (by simp) _).setCell (p := ⟨w.heap.size, 1, none⟩) (by simp) _).setCell (p := ⟨w.heap.size, 2, none⟩) (by simp) _⟩
            · have HR5 := hq (HR4.o.trans (if_neg h9))
              clear HR4
              have hbd := numOf_le x hxd.o (by omega)
              go_wp2_with fail
              go_loop [10, 11] (fun s i => ∃ k : Nat, k ≤ x.length ∧ i = .int .i64 k ∧ s = .int .i64 (numOf (x.take k))) (fun _ i => x.length - (intOf i).toNat)
              case atStart => exact ⟨0, by omega, rfl, rfl⟩
              case round =>
                obtain ⟨k, hk, rfl, rfl⟩ := hrel
                have hbk := numOf_le (x.take k) (by have := hxd.o; rw [List.all_eq_true] at this ⊢; exact fun y hy => this y (List.mem_of_mem_take hy)) (by rw [List.length_take]; omega)
                obtain ⟨hb1, hb2⟩ := hbk
                by_cases hlt : k < x.length
                · have hz : k < (st x).size := by rw [st_size]; exact hlt
                  have hdk : 48 ≤ ((st x)[k]'hz).toNat ∧ ((st x)[k]'hz).toNat ≤ 57 := by
                    have := List.all_eq_true.1 hxd.o x[k] (List.getElem_mem hlt)
                    unfold isDig at this
                    simp only [Bool.and_eq_true, decide_eq_true_eq] at this
                    exact this
                  have hsn : Hq (numOf (x.take (k + 1)) = numOf (x.take k) * 10 + ((((st x)[k]'hz).toNat : Int) - 48)) := hq (by
                    rw [List.take_succ_eq_append_getElem hlt, numOf_snoc]; rfl)
                  have hwr := dig_sub hdk.1 hdk.2
                  generalize hX : ((st x)[k]'hz).toNat = c at *
                  have hy : (((st x)[k]'hz).toNat : Int) = (c : Int) := by rw [hX]
                  clear hX
                  generalize numOf (x.take k) = s at *
                  generalize hS : numOf (x.take (k + 1)) = s' at *
                  obtain ⟨hd1, hd2⟩ := hdk
                  have HS := hq hS
                  clear hS
                  go_wp2_with fail
                  go_round
                  case rel => exact ⟨k + 1, by omega, by go_num, by rw [HS.o, hsn.o]; exact int_eq (by omega)⟩
                  case measure => simp [intOf]; omega
                · obtain rfl : k = x.length := by omega
                  rw [List.take_length]
                  clear hxd hb1 hb2
                  obtain ⟨hb1, hb2⟩ := hbd
                  have HE1 : Hq (expOf down x = if down = true then - numOf x else numOf x) := hq rfl
                  have HR7 : Hq (∀ D, stripL (whole ++ frac) = D → R = if D = [] then (.zero, 0) else if expOf down x - frac.length + D.length - (stripR D).length < -1000000 ∨ 1000000 < expOf down x - frac.length + D.length - (stripR D).length then (.zero, 4) else (⟨neg, stripR D, expOf down x - frac.length + D.length - (stripR D).length⟩, 0)) := hq (fun D hD => by
                    rw [HR5.o, hD]; rfl)
                  clear HR5
                  have he1 : -999999999 ≤ expOf down x ∧ expOf down x ≤ 999999999 := by unfold expOf; split <;> omega
                  generalize numOf x = X at *
                  generalize hE : expOf down x = E0 at *
                  clear hE
                  go_upto_if 60 with fail
                  go_cut [10] (fun s wx => s = .int .i64 E0 ∧ wx = wc)
                  case first =>
                    cases down with
                    | true =>
                      go_wp2_with fail
                      go_meet
                      exact ⟨by rw [HE1.o]; rfl, rfl⟩
                    | false =>
                      go_wp2_with fail
                      go_meet
                      exact ⟨by rw [HE1.o]; rfl, rfl⟩
                  case rest =>
                    obtain ⟨rfl, rfl⟩ := hcut
                    clear HE1 hb1 hb2 hlt hk h9
                    obtain ⟨he1, he2⟩ := he1
                    go_wp2_with fail
                    rw [cat_st]
                    have hal : (whole ++ frac).length ≤ 1000 := by rw [List.length_append]; omega
                    have HD0 := hq (stripL_head (whole ++ frac))
                    have hfl : frac.length ≤ 1000 := by omega
                    generalize whole ++ frac = ALL at *
                    go_loopg [12] ALL.length (fun g a wx => ∃ y : Bs, a = .string (st y) ∧ y.length ≤ g ∧ g ≤ y.length ∧ y.length ≤ 1000 ∧ Hq (stripL y = stripL ALL) ∧ wx = wc)
                    case atStart => exact ⟨ALL, rfl, by omega, by omega, hal, hq rfl, rfl⟩
                    case round =>
                      obtain ⟨y, rfl, hy1, hy2, hyl, hys, rfl⟩ := hrel
                      go_upto_region 19 with fail
                      go_cut [77] from 70 to 79 (fun c wx => c = .bool (noughtAhead y) ∧ wx = wr)
                      case first =>
                        clear HR7 HD0 hys
                        cases y with
                        | nil =>
                          go_wp2_with fail
                          go_meet
                          exact ⟨rfl, rfl⟩
                        | cons c y =>
                          have hy : (((st (c :: y))[0]'(by rw [st_size]; simp)).toNat : Int) = (c.toNat : Int) := rfl
                          simp only [List.length_cons] at hy1 hy2 hyl
                          go_wp2_with fail
                          go_meet
                          exact ⟨rfl, rfl⟩
                      case rest =>
                        obtain ⟨rfl, rfl⟩ := hcut
                        have hY := @noughtAhead_yes y
                        have hN := @noughtAhead_no y
                        generalize noughtAhead y = B at *
                        have HY := hq hY
                        have HN := hq hN
                        clear hY hN
                        cases B with
                        | true =>
                          obtain ⟨e1, e2⟩ := HY.o rfl
                          have HE := hq (e1.symm.trans hys.o)
                          have HC : Hq (∀ z : ByteArray, z = (st y).extract 1 y.length → z = st y.tail) := hq (fun z hz => by rw [hz, cut_right, List.drop_one])
                          clear e1 HY HN hys HR7 HD0
                          go_wp2_with fail
                          go_roundg (gk - 1)
                          case rel => exact ⟨y.tail, congrArg Value.string (HC.o _ rfl), by omega, by omega, by omega, HE, rfl⟩
                          case measure => omega
                        | false =>
                          have hys2 := (HN.o rfl).symm.trans hys.o
                          have HD := hq (HR7.o y hys2.symm)
                          have HY0 : Hq (y.head? ≠ some 48) := hq (by rw [hys2]; exact HD0.o)
                          clear HY HN hys hys2 HR7 HD0 hy1 hy2 hal
                          by_cases hy0 : y = []
                          · have HN := hq (HD.o.trans (if_pos hy0))
                            subst hy0
                            clear HD HY0
                            go_wp2_with fail
                            refine bodyPost_ret (v := .tuple #[Dec.zero.val, .int .i64 0]) ?_ rfl ?_
                            · obtain ⟨z0, z1, z2⟩ := three_cells (by simpa using (((hW.put 0 (.bool false)).put 1 (.string ⟨#[]⟩)).put 2 (.int .i64 0)))
                              simp [results, Tryd.results72, go_sem, z0, z1, z2, Dec.zero, Dec.val]
                            · exact ⟨by rw [HN.o], ((hb.setCell (p := ⟨w.heap.size, 0, none⟩) (by simp) _).setCell (p := ⟨w.heap.size, 1, none⟩) (by simp) _).setCell (p := ⟨w.heap.size, 2, none⟩) (by simp) _⟩
                          · have HD2 := hq (HD.o.trans (if_neg hy0))
                            clear HD
                            have hem : y.isEmpty = false := by cases y with | nil => exact absurd rfl hy0 | cons _ _ => rfl
                            have hyp : 0 < y.length := List.length_pos_iff.2 hy0
                            go_wp2_with fail
                            go_loopg [10, 12] y.length (fun g v a wx => ∃ (z : Bs) (e : Int), a = .string (st z) ∧ v = .int .i64 e ∧ z.length ≤ g ∧ 0 < z.length ∧ z.length ≤ 1000 ∧ Hq (e + z.length = E0 - frac.length + y.length) ∧ -1000001000 ≤ e ∧ e + z.length ≤ 1000001000 ∧ Hq (stripR z = stripR y) ∧ Hq (z.head? ≠ some 48) ∧ wx = wc)
                            case atStart => exact ⟨y, E0 - frac.length, rfl, rfl, by omega, hyp, hyl, hq rfl, by omega, by omega, hq rfl, HY0, rfl⟩
                            case round =>
                              obtain ⟨z, e, rfl, rfl, hz1, hz2, hz3, hze, he3, he4, hzs, hzh, rfl⟩ := hrel
                              have hzi : z.length - 1 < (st z).size := by rw [st_size]; omega
                              obtain ⟨t, c, htc⟩ := snoc_of (List.length_pos_iff.1 hz2)
                              have htl : z.length = t.length + 1 := by rw [htc]; simp
                              have hc : ((st z)[z.length - 1]'hzi) = c := by
                                rw [get_st]
                                simp [htc]
                              have hcut2 : Hq (∀ u : ByteArray, u = (st z).extract 0 (z.length - 1) → u = st t) := hq (fun u hu => by
                                rw [hu, cut_left]; congr 1; rw [htl, htc]; simp)
                              have HS : Hq (stripR z = if c = 48 then stripR t else z) := hq (by rw [htc]; exact stripR_step t c)
                              have HC : Hq (c = 48 ↔ ((c.toNat : Int) == 48) = true) := hq (by
                                rw [beq_iff_eq, ← UInt8.toNat_inj]
                                show c.toNat = 48 ↔ _
                                omega)
                              have HT0 : Hq (c = 48 → t ≠ []) := hq (fun h ht => hzh.o (by rw [htc, ht, h]; rfl))
                              have HTH : Hq (t ≠ [] → t.head? ≠ some 48) := hq (fun h => by
                                have := hzh.o
                                rw [htc] at this
                                cases t with
                                | nil => exact absurd rfl h
                                | cons a b => exact this)
                              have hy : ((((st z)[z.length - 1]'hzi).toNat : Nat) : Int) = (c.toNat : Int) := by rw [hc]
                              have htl1 : t.length + 1 ≤ z.length := by omega
                              have htl2 : z.length ≤ t.length + 1 := by omega
                              clear htc hc htl HY0
                              cases hB : ((c.toNat : Int) == 48) with
                              | true =>
                                have h48 := HC.o.2 hB
                                have hS2 := hq ((HS.o.trans (if_pos h48)).symm.trans hzs.o)
                                have ht0 := HT0.o h48
                                have hth := hq (HTH.o ht0)
                                have htp : 0 < t.length := List.length_pos_iff.2 ht0
                                clear HS HC HT0 HTH h48 ht0 HD2
                                go_wp2_with fail
                                go_roundg (gk - 1)
                                case rel => exact ⟨t, e + 1, congrArg Value.string (hcut2.o _ rfl), rfl, by omega, htp, by omega, hq (by have := hze.o; omega), by omega, by omega, hS2, hth, rfl⟩
                                case measure => omega
                              | false =>
                                have hS2 := (HS.o.trans (if_neg (fun h => by rw [HC.o.1 h] at hB; cases hB))).symm.trans hzs.o
                                have HE : Hq (R = if e < -1000000 ∨ 1000000 < e then (.zero, 4) else (⟨neg, z, e⟩, 0)) := hq (by
                                  have h1 := hze.o
                                  rw [HD2.o, ← hS2, show E0 - (frac.length : Int) + (y.length : Int) - (z.length : Int) = e by omega])
                                clear HS HC HT0 HTH hS2 HD2 hcut2 hze hzs hzh
                                by_cases g1 : e < -1000000
                                · have HN := hq (HE.o.trans (if_pos (.inl g1)))
                                  clear HE
                                  go_wp2_with fail
                                  refine bodyPost_ret (v := .tuple #[Dec.zero.val, .int .i64 4]) ?_ rfl ?_
                                  · obtain ⟨z0, z1, z2⟩ := three_cells (by simpa using (((hW.put 0 (.bool false)).put 1 (.string ⟨#[]⟩)).put 2 (.int .i64 0)))
                                    simp [results, Tryd.results72, go_sem, z0, z1, z2, Dec.zero, Dec.val]
                                  · exact ⟨by rw [HN.o], ((hb.setCell (p := ⟨w.heap.size, 0, none⟩) (by simp) _).setCell (p := ⟨w.heap.size, 1, none⟩) (by simp) _).setCell (p := ⟨w.heap.size, 2, none⟩) (by simp) _⟩
                                · by_cases g2 : 1000000 < e
                                  · have HN := hq (HE.o.trans (if_pos (.inr g2)))
                                    clear HE
                                    go_wp2_with fail
                                    refine bodyPost_ret (v := .tuple #[Dec.zero.val, .int .i64 4]) ?_ rfl ?_
                                    · obtain ⟨z0, z1, z2⟩ := three_cells (by simpa using (((hW.put 0 (.bool false)).put 1 (.string ⟨#[]⟩)).put 2 (.int .i64 0)))
                                      simp [results, Tryd.results72, go_sem, z0, z1, z2, Dec.zero, Dec.val]
                                    · exact ⟨by rw [HN.o], ((hb.setCell (p := ⟨w.heap.size, 0, none⟩) (by simp) _).setCell (p := ⟨w.heap.size, 1, none⟩) (by simp) _).setCell (p := ⟨w.heap.size, 2, none⟩) (by simp) _⟩
                                  · have HN := hq (HE.o.trans (if_neg (by omega)))
                                    clear HE
                                    go_wp2_with fail
                                    refine bodyPost_ret (v := .tuple #[(Dec.mk neg z e).val, .int .i64 0]) ?_ rfl ?_
                                    · obtain ⟨z0, z1, z2⟩ := three_cells (by simpa using (((hW.put 0 (.bool neg)).put 1 (.string (st z))).put 2 (.int .i64 e)))
                                      simp [results, Tryd.results72, go_sem, z0, z1, z2, Dec.val]
                                    · exact ⟨by rw [HN.o], ((hb.setCell (p := ⟨w.heap.size, 0, none⟩) (by simp) _).setCell (p := ⟨w.heap.size, 1, none⟩) (by simp) _).setCell (p := ⟨w.heap.size, 2, none⟩) (by simp) _⟩
end Go.Proofs.YtmomildkopainaaDoor
