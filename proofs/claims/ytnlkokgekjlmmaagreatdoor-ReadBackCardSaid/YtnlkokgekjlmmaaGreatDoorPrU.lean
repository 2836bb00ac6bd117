/-
  PLAIN MATHEMATICS: one text in a line just of one value (PrintApart).
-/
import Derived.Test.YtnlkokgekjlmmaaGreatDoorPrK
namespace Go.Proofs.YtnlkokgekjlmmaaGreatDoor
open Go.RowKit
/-! ### what begins how -/
def Dlm (r : Bs) : Prop := ∀ c t, r = c :: t → c = 44 ∨ c = 93 ∨ c = 125 ∨ c = 58
def numC (c : UInt8) : Bool := c == 45 || c == 101 || isDig c
/-! ### a text in quotes -/
def sc : Bs → Option (Bs × Bs)
  | [] => none
  | [c] => if c = 34 then some ([], []) else none
  | c :: d :: l => if c = 34 then some ([], d :: l) else if c = 92 then (sc l).map (fun p => (c :: d :: p.1, p.2)) else (sc (d :: l)).map (fun p => (c :: p.1, p.2))
def hexvP (c : UInt8) : Nat := if c.toNat < 58 then c.toNat - 48 else c.toNat - 87
def firstQ : Bs → UInt8 × Bs
  | [] => (0, [])
  | [c] => (c, [])
  | c :: d :: l => if c = 92 then (if d = 117 then (UInt8.ofNat (hexvP (l.getD 2 0) * 16 + hexvP (l.getD 3 0)), l.drop 4) else (if d = 98 then 8 else if d = 102 then 12 else if d = 110 then 10 else if d = 114 then 13 else if d = 116 then 9 else d, l)) else (c, d :: l)
/-! ### rows -/
def tailB' {α : Type} (c : α → Bs) (l : List α) : Bs := l.flatMap fun x => 44 :: c x
structure Codes {α : Type} (c : α → Bs) (p : α → Prop) : Prop where
  ne : ∀ x, p x → ∃ d l, c x = d :: l ∧ d ≠ 93 ∧ d ≠ 125 ∧ d ≠ 44
/-! ### values -/
def Rgt (v : Vl) : Prop := v.allB (fun x => nodeM x && decide (x.k ≠ 7)) = true
theorem Rgt.here {k : Int} {t : Bs} {ks : List Bs} {is : List Vl} (h : Rgt (.mk k t ks is)) : nodeM (.mk k t ks is) = true ∧ k ≠ 7 := by
  unfold Rgt at h
  simp only [Vl.allB, Bool.and_eq_true] at h
  exact ⟨h.1.1, of_decide_eq_true h.1.2⟩
theorem Rgt.item {k : Int} {t : Bs} {ks : List Bs} {is : List Vl} (h : Rgt (.mk k t ks is)) : ∀ x ∈ is, Rgt x := fun x hx => by
  unfold Rgt at h ⊢
  simp only [Vl.allB, Bool.and_eq_true] at h
  exact Vl.allsB_iff.1 h.2 x hx
theorem Rgt.is {k : Int} {t : Bs} {ks : List Bs} {is : List Vl} (h : Rgt (.mk k t ks is)) :
    (k = 1 ∧ t = [] ∧ ks = [] ∧ is = []) ∨ (k = 2 ∧ (t = [116, 114, 117, 101] ∨ t = [102, 97, 108, 115, 101]) ∧ ks = [] ∧ is = []) ∨ (k = 3 ∧ decM t = true ∧ ks = [] ∧ is = []) ∨
    (k = 4 ∧ (valid (st t)).2 = true ∧ ks = [] ∧ is = []) ∨ (k = 5 ∧ t = [] ∧ ks = []) ∨ (k = 6 ∧ t = [] ∧ ks.length = is.length ∧ ∀ x ∈ ks, (valid (st x)).2 = true) := by
  obtain ⟨h1, h7⟩ := h.here
  have e : nodeM (.mk k t ks is) = if k = 5 then decide (t = []) && decide (ks = []) else if k = 6 then decide (t = []) && membersM ks is.length else (decide (ks = []) && decide (is = [])) && scalarM k t := rfl
  rw [e] at h1
  by_cases k5 : k = 5
  · rw [if_pos k5] at h1
    simp only [Bool.and_eq_true, decide_eq_true_eq] at h1
    exact .inr (.inr (.inr (.inr (.inl ⟨k5, h1⟩))))
  rw [if_neg k5] at h1
  by_cases k6 : k = 6
  · rw [if_pos k6] at h1
    unfold membersM at h1
    simp only [Bool.and_eq_true, decide_eq_true_eq, List.all_eq_true] at h1
    exact .inr (.inr (.inr (.inr (.inr ⟨k6, h1.1, h1.2.1, h1.2.2.2.1⟩))))
  rw [if_neg k6] at h1
  simp only [Bool.and_eq_true, decide_eq_true_eq] at h1
  obtain ⟨⟨h2, h3⟩, h4⟩ := h1
  unfold scalarM at h4
  by_cases k1 : k = 1
  · rw [if_pos k1, decide_eq_true_eq] at h4; exact .inl ⟨k1, h4, h2, h3⟩
  rw [if_neg k1] at h4
  by_cases k2 : k = 2
  · rw [if_pos k2, Bool.or_eq_true, decide_eq_true_eq, decide_eq_true_eq] at h4; exact .inr (.inl ⟨k2, h4, h2, h3⟩)
  rw [if_neg k2] at h4
  by_cases k3 : k = 3
  · rw [if_pos k3] at h4; exact .inr (.inr (.inl ⟨k3, h4, h2, h3⟩))
  rw [if_neg k3] at h4
  by_cases k4 : k = 4
  · rw [if_pos k4] at h4; exact .inr (.inr (.inr (.inl ⟨k4, h4, h2, h3⟩)))
  rw [if_neg k4, if_neg h7] at h4
  cases h4
def kindC (c : UInt8) : Int := if c = 110 then 1 else if c = 116 ∨ c = 102 then 2 else if c = 34 then 4 else if c = 91 then 5 else if c = 123 then 6 else 3
end Go.Proofs.YtnlkokgekjlmmaaGreatDoor
