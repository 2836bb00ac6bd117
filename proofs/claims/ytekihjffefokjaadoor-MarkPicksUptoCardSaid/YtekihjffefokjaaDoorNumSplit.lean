/-
  WALKS: number.split: the parts of a literal.
-/
import Derived.Test.YtekihjffefokjaaDoorNumDigits
import Derived.Deep.DeepCutAuto
import Derived.Deep.RegionWith
namespace Go.Proofs.YtekihjffefokjaaDoor
open Go.RowKit

/-- the parts of a literal -/
structure Parts where
  neg : Bool
  whole : Bs
  frac : Bs
  down : Bool
  power : Bs
def Parts.val (l : Parts) : Value := .agg #[.bool l.neg, .string (st l.whole), .string (st l.frac), .bool l.down, .string (st l.power)]

/-- the exponent's digits, behind e -/
def splitFin (p : Parts) (d : Bool) (r : Bs) : Option Parts := if r ≠ [] ∧ r.all isDig then some { p with down := d, power := r } else none
def splitExp (p : Parts) (l : Bs) : Option Parts :=
  if l.head? == some 45 then splitFin p true l.tail else splitFin p false (if l.head? == some 43 then l.tail else l)
/-- behind the fraction -/
def splitTail (p : Parts) (l : Bs) : Option Parts :=
  match l with
  | [] => some p
  | c :: r => if c = 101 ∨ c = 69 then splitExp p r else none
/-- behind the whole digits -/
def splitFrac (p : Parts) (l : Bs) : Option Parts :=
  match l with
  | 46 :: r => if r.takeWhile isDig = [] then none else splitTail { p with frac := r.takeWhile isDig } (r.dropWhile isDig)
  | l => splitTail p l
def splitWhole (neg : Bool) (l : Bs) : Option Parts :=
  let w := l.takeWhile isDig
  if w = [] ∨ (1 < w.length ∧ w.head? = some 48) then none else splitFrac ⟨neg, w, [], false, []⟩ (l.dropWhile isDig)
def splitM (l : Bs) : Option Parts := if l.head? == some 45 then splitWhole true l.tail else splitWhole false l

theorem prefix_one (l : Bs) (c : UInt8) : Lib.hasPrefix l [c] = (l.head? == some c) := by
  cases l with
  | nil => rfl
  | cons a l => simp [Lib.hasPrefix, List.isPrefixOf]; exact Bool.beq_comm
theorem trim_one (l : Bs) (c : UInt8) : Lib.trimPrefix l [c] = if l.head? == some c then l.tail else l := by
  unfold Lib.trimPrefix
  rw [prefix_one]
  cases l with
  | nil => rfl
  | cons a l => simp

theorem nd_all (l : Bs) (h : l.all isDig = true) : nd l = l.length := by
  unfold nd
  have h2 : l.takeWhile isDig = l := by
    induction l with
    | nil => rfl
    | cons c l ih =>
      simp only [List.all_cons, Bool.and_eq_true] at h
      rw [List.takeWhile_cons, if_pos h.1, ih h.2]
  rw [h2]
theorem nd_not (l : Bs) (h : l.all isDig = false) : nd l ≠ l.length := by
  intro he
  have h2 : l.takeWhile isDig = l := (List.takeWhile_prefix isDig).eq_of_length he
  have h3 : ∀ m : Bs, m.takeWhile isDig = m → m.all isDig = true := by
    intro m
    induction m with
    | nil => intro _; rfl
    | cons c m ih =>
      intro hm
      rw [List.takeWhile_cons] at hm
      split at hm
      · rename_i hc
        simp only [List.cons.injEq, true_and] at hm
        rw [List.all_cons, hc, ih hm]; rfl
      · cases hm
  rw [h3 l h2] at h; cases h
def SplitPost (R : Option Parts) (w : World) (e : Ending) (w' : World) : Prop :=
  (∃ v, e = .returned v ∧ ((∃ p, R = some p ∧ v = .tuple #[p.val, .bool true]) ∨ (R = none ∧ ∃ p : Parts, v = .tuple #[p.val, .bool false]))) ∧ Below w.heap.size w w'
theorem SplitPost.no {R : Option Parts} {w w' : World} {x : Value} (p : Parts) (h : R = none) (hx : x = p.val) (hb : Below w.heap.size w w') : SplitPost R w (.returned (.tuple #[x, .bool false])) w' := ⟨⟨_, rfl, .inr ⟨h, p, by rw [hx]⟩⟩, hb⟩
theorem SplitPost.yes {R : Option Parts} {w w' : World} {p : Parts} {x : Value} (h : R = some p) (hx : x = p.val) (hb : Below w.heap.size w w') : SplitPost R w (.returned (.tuple #[x, .bool true])) w' := ⟨⟨_, rfl, .inl ⟨p, h, by rw [hx]⟩⟩, hb⟩
theorem five_cells {w : World} {g : Nat} {t : TypeId} {a b c d e : Value} (h : Whole w g t #[a, b, c, d, e]) :
    w.cell? ⟨g, 0, none⟩ = some a ∧ w.cell? ⟨g, 1, none⟩ = some b ∧ w.cell? ⟨g, 2, none⟩ = some c ∧ w.cell? ⟨g, 3, none⟩ = some d ∧ w.cell? ⟨g, 4, none⟩ = some e :=
  ⟨h.at_ 0, h.at_ 1, h.at_ 2, h.at_ 3, h.at_ 4⟩

theorem set_five {B : Nat} {w W : World} (h : Below B w W) {g : Nat} (hg : B ≤ g) (a b c d e : Value) :
    Below B w (((((W.setCell ⟨g, 0, none⟩ a).setCell ⟨g, 1, none⟩ b).setCell ⟨g, 2, none⟩ c).setCell ⟨g, 3, none⟩ d).setCell ⟨g, 4, none⟩ e) :=
  ((((h.setCell (p := ⟨g, 0, none⟩) hg a).setCell (p := ⟨g, 1, none⟩) hg b).setCell (p := ⟨g, 2, none⟩) hg c).setCell (p := ⟨g, 3, none⟩) hg d).setCell (p := ⟨g, 4, none⟩) hg e
theorem cut_left (l : Bs) (k : Nat) : (st l).extract 0 k = st (l.take k) := by rw [extract_st, st_list]; simp
theorem cut_right (l : Bs) (k : Nat) : (st l).extract k l.length = st (l.drop k) := by
  rw [extract_st, st_list]
  congr 2
  rw [List.take_of_length_le]
  rw [List.length_drop]; omega
theorem splitTail_cons (p : Parts) (c : UInt8) (r : Bs) : splitTail p (c :: r) = if c.toNat = 101 ∨ c.toNat = 69 then splitExp p r else none := by
  have h1 : (c = 101 ∨ c = 69) ↔ (c.toNat = 101 ∨ c.toNat = 69) := by
    constructor
    · rintro (rfl | rfl) <;> simp
    · rintro (h | h)
      · exact .inl (UInt8.toNat_inj.1 h)
      · exact .inr (UInt8.toNat_inj.1 h)
  show (if c = 101 ∨ c = 69 then splitExp p r else none) = _
  by_cases h : c = 101 ∨ c = 69
  · rw [if_pos h, if_pos (h1.1 h)]
  · rw [if_neg h, if_neg (fun x => h (h1.2 x))]
theorem five_free {w : World} {g : Nat} {t : TypeId} {cs : Array Value} (h : Whole w g t cs) :
    w.frozen? ⟨g, 0, none⟩ = false ∧ w.frozen? ⟨g, 1, none⟩ = false ∧ w.frozen? ⟨g, 2, none⟩ = false ∧ w.frozen? ⟨g, 3, none⟩ = false ∧ w.frozen? ⟨g, 4, none⟩ = false :=
  ⟨h.free 0, h.free 1, h.free 2, h.free 3, h.free 4⟩

end Go.Proofs.YtekihjffefokjaaDoor
