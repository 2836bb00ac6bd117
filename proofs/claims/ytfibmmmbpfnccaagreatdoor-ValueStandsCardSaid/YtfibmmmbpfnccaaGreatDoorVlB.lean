/-
  PLAIN MATHEMATICS: which trees are values, and their order.
-/
import Derived.Test.YtfibmmmbpfnccaaGreatDoorVlA
import Derived.Test.YtfibmmmbpfnccaaGreatDoorNumL
import Derived.Test.YtfibmmmbpfnccaaGreatDoorVldM
namespace Go.Proofs.YtfibmmmbpfnccaaGreatDoor

/-! ### which trees are values -/
def decM (t : Bs) : Bool := decide ((parseM t).2 = 0) && decide (textM (parseM t).1 = t)
def holeM (t : Bs) : Bool := decM t && ((intM (parseM t).1).2 && decide (0 ≤ (intM (parseM t).1).1))
def membersM (ks : List Bs) (n : Nat) : Bool := decide (ks.length = n) && (decide (ks.length ≤ 4096) && (ks.all (fun k => (valid (st k)).2) && decide ks.Nodup))
def scalarM (k : Int) (t : Bs) : Bool :=
  if k = 1 then decide (t = [])
  else if k = 2 then decide (t = [116, 114, 117, 101]) || decide (t = [102, 97, 108, 115, 101])
  else if k = 3 then decM t
  else if k = 4 then (valid (st t)).2
  else if k = 7 then holeM t
  else false
def nodeM (v : Vl) : Bool :=
  if v.k = 5 then decide (v.t = []) && decide (v.ks = [])
  else if v.k = 6 then decide (v.t = []) && membersM v.ks v.is.length
  else (decide (v.ks = []) && decide (v.is = [])) && scalarM v.k v.t
def openM (v : Vl) : Bool := decide (v.size ≤ 4096) && (decide (v.depth ≤ 32) && v.allB nodeM)
def rightM (v : Vl) : Bool := decide (v.size ≤ 4096) && (decide (v.depth ≤ 32) && v.allB (fun x => nodeM x && decide (x.k ≠ 7)))

/-! ### their order -/
abbrev cmpB : Bs → Bs → Int := Lib.compareBytes
theorem cmpB_nil (y : UInt8) (b : Bs) : cmpB [] (y :: b) = -1 := rfl
theorem cmpB_lex : ∀ a b : Bs, cmpB a b = lexM (fun x y : UInt8 => if x < y then -1 else if y < x then 1 else 0) a b
  | [], [] => rfl
  | [], _ :: _ => rfl
  | _ :: _, [] => rfl
  | x :: a, y :: b => by
    have h := cmpB_lex a b
    simp only [cmpB, Lib.compareBytes, lexM] at h ⊢
    rw [h]
    by_cases h1 : x < y
    · simp [h1]
    · by_cases h2 : y < x
      · simp [h1, h2]
      · simp [h1, h2]
theorem ordr_byte : Ordr (fun _ => True) (fun x y : UInt8 => if x < y then -1 else if y < x then (1 : Int) else 0) where
  swap x y _ _ := by
    simp only [UInt8.lt_iff_toNat_lt]
    repeat' split
    all_goals omega
  tr x y z _ _ _ := by
    simp only [UInt8.lt_iff_toNat_lt]
    repeat' split
    all_goals omega
theorem ordr_cmpB : Ordr (fun _ => True) cmpB where
  swap x y _ _ := by rw [cmpB_lex, cmpB_lex]; exact ordr_byte.lex.swap x y (fun _ _ => trivial) (fun _ _ => trivial)
  tr x y z _ _ _ := by rw [cmpB_lex, cmpB_lex, cmpB_lex]; exact ordr_byte.lex.tr x y z (fun _ _ => trivial) (fun _ _ => trivial) (fun _ _ => trivial)
theorem cmpB_eq {a b : Bs} (h : cmpB a b = 0) : a = b := by
  rw [cmpB_lex] at h
  refine lexM_zero a b (fun x _ y _ e => ?_) h
  simp only [UInt8.lt_iff_toNat_lt] at e
  refine UInt8.toNat_inj.1 ?_
  by_cases h1 : x.toNat < y.toNat
  · rw [if_pos h1] at e; cases e
  · rw [if_neg h1] at e
    by_cases h2 : y.toNat < x.toNat
    · rw [if_pos h2] at e; cases e
    · omega
theorem cmpB_self (a : Bs) : cmpB a a = 0 := by have := ordr_cmpB.swap a a trivial trivial; omega
def numT (t : Bs) : Dec := (parseM t).1
mutual
/-- the order of two whose members are in order -/
def cmpV : Vl → Vl → Int
  | .mk k t ks is, w =>
    if k ≠ w.k then (if k < w.k then -1 else 1)
    else if k = 3 then compareM (numT t) (numT w.t)
    else if k = 5 then cmpL is w.is
    else if k = 6 then thenM (lexM cmpB ks w.ks) (cmpL is w.is)
    else cmpB t w.t
def cmpL : List Vl → List Vl → Int
  | [], [] => 0
  | [], _ :: _ => -1
  | _ :: _, [] => 1
  | x :: a, y :: b => if cmpV x y ≠ 0 then cmpV x y else cmpL a b
end
theorem cmpL_lex : ∀ a b : List Vl, cmpL a b = lexM cmpV a b
  | [], [] => by simp only [cmpL, lexM]
  | [], _ :: _ => by simp only [cmpL, lexM]
  | _ :: _, [] => by simp only [cmpL, lexM]
  | x :: a, y :: b => by simp only [cmpL, lexM, cmpL_lex a b]
/-- the order of two of one kind -/
def bodyV (k : Int) (v w : Vl) : Int :=
  if k = 3 then compareM (numT v.t) (numT w.t)
  else if k = 5 then lexM cmpV v.is w.is
  else if k = 6 then thenM (lexM cmpB v.ks w.ks) (lexM cmpV v.is w.is)
  else cmpB v.t w.t
theorem cmpV_eq (v w : Vl) : cmpV v w = if v.k ≠ w.k then (if v.k < w.k then -1 else 1) else bodyV v.k v w := by
  obtain ⟨k, t, ks, is⟩ := v
  obtain ⟨k', t', ks', is'⟩ := w
  simp only [cmpV, bodyV, cmpL_lex, Vl.k, Vl.t, Vl.ks, Vl.is]
  rfl
theorem cmpV_same {v w : Vl} (h : v.k = w.k) : cmpV v w = bodyV v.k v w := by rw [cmpV_eq]; exact if_neg (fun e => e h)
theorem cmpV_lt {v w : Vl} (h : v.k < w.k) : cmpV v w = -1 := by rw [cmpV_eq]; exact (if_pos (by omega)).trans (if_pos h)
theorem cmpV_gt {v w : Vl} (h : w.k < v.k) : cmpV v w = 1 := by rw [cmpV_eq]; exact (if_pos (by omega)).trans (if_neg (by omega))
theorem ordr_body (n : Nat) (h : Ordr (fun v : Vl => v.depth ≤ n) cmpV) (k : Int) : Ordr (fun v : Vl => v.depth ≤ n + 1) (bodyV k) := by
  have hi : ∀ v : Vl, v.depth ≤ n + 1 → ∀ x ∈ v.is, x.depth ≤ n := fun v hv x hx => by
    obtain ⟨k, t, ks, is⟩ := v
    have := Vl.depths_le x hx
    simp only [Vl.depth] at hv
    simp only [Vl.is] at this
    omega
  by_cases h3 : k = 3
  · subst h3
    exact ⟨fun x y _ _ => compareM_swap _ _, fun x y z _ _ _ => compareM_trans _ _ _⟩
  by_cases h5 : k = 5
  · subst h5
    exact h.lex.map Vl.is hi
  by_cases h6 : k = 6
  · subst h6
    exact ((ordr_cmpB.lex).map (R := fun v : Vl => v.depth ≤ n + 1) Vl.ks (fun _ _ _ _ => trivial)).then (h.lex.map Vl.is hi)
  · have e : bodyV k = fun v w => cmpB v.t w.t := by
      funext v w
      unfold bodyV
      rw [if_neg h3, if_neg h5, if_neg h6]
    rw [e]
    exact ordr_cmpB.map (R := fun v : Vl => v.depth ≤ n + 1) Vl.t (fun _ _ => trivial)
theorem ordr_upto : ∀ n : Nat, Ordr (fun v : Vl => v.depth ≤ n) cmpV
  | 0 => ⟨fun x _ h => absurd h (by have := x.depth_pos; omega), fun x _ _ h => absurd h (by have := x.depth_pos; omega)⟩
  | n + 1 => by
    have hb := ordr_body n (ordr_upto n)
    constructor
    · intro x y sx sy
      rcases Int.lt_trichotomy x.k y.k with e | e | e
      · rw [cmpV_lt e, cmpV_gt e]; rfl
      · rw [cmpV_same e, cmpV_same e.symm, ← e]; exact (hb x.k).swap x y sx sy
      · rw [cmpV_lt e, cmpV_gt e]
    · intro x y z sx sy sz
      rcases Int.lt_trichotomy x.k y.k with e | e | e
      · rcases Int.lt_trichotomy y.k z.k with e2 | e2 | e2
        · rw [cmpV_lt (v := x) (w := z) (by omega)]; intro _ _; omega
        · rw [cmpV_lt (v := x) (w := z) (by omega)]; intro _ _; omega
        · rw [cmpV_gt e2]; intro _ h; omega
      · rcases Int.lt_trichotomy y.k z.k with e2 | e2 | e2
        · rw [cmpV_lt (v := x) (w := z) (by omega)]; intro _ _; omega
        · rw [cmpV_same e, cmpV_same e2, cmpV_same (e.trans e2), ← e]; exact (hb x.k).tr x y z sx sy sz
        · rw [cmpV_gt e2]; intro _ h; omega
      · rw [cmpV_gt e]; intro h; omega
theorem ordr_cmpV : Ordr (fun _ => True) cmpV where
  swap x y _ _ := (ordr_upto (max x.depth y.depth)).swap x y (by omega) (by omega)
  tr x y z _ _ _ := (ordr_upto (max (max x.depth y.depth) z.depth)).tr x y z (by omega) (by omega) (by omega)
theorem bodyV_bd (k : Int) (v w : Vl) (ih : ∀ x ∈ v.is, ∀ w, -1 ≤ cmpV x w ∧ cmpV x w ≤ 1) : -1 ≤ bodyV k v w ∧ bodyV k v w ≤ 1 := by
  have a1 := lexM_bd v.ks w.ks (f := cmpB) (fun x _ y => compareBytes_bd x y)
  have a2 := lexM_bd v.is w.is (f := cmpV) ih
  have a3 := compareM_bd (numT v.t) (numT w.t)
  have a4 := compareBytes_bd v.t w.t
  unfold bodyV thenM
  repeat' split
  all_goals first | exact a1 | exact a2 | exact a3 | exact a4
theorem cmpV_bd : ∀ v w : Vl, -1 ≤ cmpV v w ∧ cmpV v w ≤ 1 := Vl.ind (fun k t ks is ih w => by
  rcases Int.lt_trichotomy k w.k with e | e | e
  · rw [cmpV_lt (v := .mk k t ks is) e]; omega
  · rw [cmpV_same (v := .mk k t ks is) e]; exact bodyV_bd _ _ _ ih
  · rw [cmpV_gt (v := .mk k t ks is) e]; omega)
mutual
/-- members in order, in all depths -/
def sortV : Vl → Vl
  | .mk k t ks is => if k = 6 then .mk k t ((isort cmpB (ks.zip (sortL is))).map (·.1)) ((isort cmpB (ks.zip (sortL is))).map (·.2)) else .mk k t [] (sortL is)
def sortL : List Vl → List Vl
  | [] => []
  | v :: l => sortV v :: sortL l
end
theorem sortL_map : ∀ l : List Vl, sortL l = l.map sortV
  | [] => rfl
  | v :: l => by simp only [sortL, List.map_cons, sortL_map l]
theorem sortV_k (v : Vl) : (sortV v).k = v.k := by obtain ⟨k, t, ks, is⟩ := v; simp only [sortV]; split <;> rfl
theorem sortV_t (v : Vl) : (sortV v).t = v.t := by obtain ⟨k, t, ks, is⟩ := v; simp only [sortV]; split <;> rfl
/-- Compare of any two -/
def compM (a b : Vl) : Int :=
  if openM a = true then (if openM b = true then cmpV (sortV a) (sortV b) else 1)
  else (if openM b = true then -1 else 0)
def sameM (a b : Vl) : Bool := openM a && (openM b && decide (cmpV (sortV a) (sortV b) = 0))
theorem compM_bd (a b : Vl) : -1 ≤ compM a b ∧ compM a b ≤ 1 := by
  have := cmpV_bd (sortV a) (sortV b)
  unfold compM
  repeat' split
  all_goals omega
theorem compM_swap (a b : Vl) : compM b a = - compM a b := by
  have := ordr_cmpV.swap (sortV a) (sortV b) trivial trivial
  unfold compM
  repeat' split
  all_goals omega
theorem compM_self (a : Vl) : compM a a = 0 := by have := compM_swap a a; omega
theorem compM_trans (a b c : Vl) (h1 : compM a b ≤ 0) (h2 : compM b c ≤ 0) : compM a c ≤ 0 := by
  have := ordr_cmpV.tr (sortV a) (sortV b) (sortV c) trivial trivial trivial
  unfold compM at *
  by_cases ha : openM a = true
  · by_cases hb : openM b = true
    · by_cases hc : openM c = true
      · simp only [ha, hb, hc, if_true] at *; exact this h1 h2
      · simp only [hb, hc, if_true] at h2; simp at h2
    · simp only [ha, hb, if_true] at h1; simp at h1
  · by_cases hb : openM b = true
    · by_cases hc : openM c = true
      · simp only [ha, hb, hc] at *; simp
      · simp only [hb, hc, if_true] at h2; simp at h2
    · by_cases hc : openM c = true
      · simp only [ha, hc] at *; simp
      · simp only [ha, hc] at *; simp
end Go.Proofs.YtfibmmmbpfnccaaGreatDoor
