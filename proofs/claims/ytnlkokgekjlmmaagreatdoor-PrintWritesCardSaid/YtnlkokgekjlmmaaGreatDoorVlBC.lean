/-
  PLAIN MATHEMATICS: Compare of right numbers is 0 of equal ones alone; it is an order; of ints that of ints.
  PLAIN MATHEMATICS: which trees are values, and their order.
  PLAIN MATHEMATICS: the items' numbers in the order of their keys.
-/
import Derived.Test.YtnlkokgekjlmmaaGreatDoorNumK
import Derived.Test.YtnlkokgekjlmmaaGreatDoorBas
import Derived.Test.YtnlkokgekjlmmaaGreatDoorRun
import Derived.Shelf.SlSortCmp.Insertion

namespace Go.Proofs.YtnlkokgekjlmmaaGreatDoor
open Go.RowKit

theorem compareBytes_zero : ∀ a b : Bs, Lib.compareBytes a b = 0 → a = b
  | [], [], _ => rfl
  | [], y :: b, h => by have h : (-1 : Int) = 0 := h; omega
  | x :: a, [], h => by have h : (1 : Int) = 0 := h; omega
  | x :: a, y :: b, h => by
    have h : (if x < y then -1 else if y < x then 1 else Lib.compareBytes a b) = (0 : Int) := h
    simp only [UInt8.lt_iff_toNat_lt] at h
    split at h
    · omega
    · split at h
      · omega
      · rw [compareBytes_zero a b h, UInt8.toNat_inj.1 (show x.toNat = y.toNat by omega)]
theorem sizeM_zero {a b : Dec} (h : sizeM a b = 0) : a.digits = b.digits ∧ a.exp = b.exp := by
  unfold sizeM at h
  split at h
  · omega
  · split at h
    · omega
    · have e := compareBytes_zero _ _ h
      have e2 := congrArg List.length e
      exact ⟨e, by omega⟩
theorem compareM_zero {a b : Dec} (ha : a.right = true) (hb : b.right = true) : compareM a b = 0 ↔ a = b := by
  have hs := sizeM_zero (a := a) (b := b)
  have hbd := sizeM_bd a b
  constructor
  · intro h
    unfold compareM at h
    rw [if_pos (by rw [ha, hb]; rfl)] at h
    split at h
    · rename_i hsg
      unfold Dec.sign at h hsg
      by_cases hza : a = .zero
      · by_cases hzb : b = .zero
        · rw [hza, hzb]
        · rw [if_pos hza, if_neg hzb] at hsg
          split at hsg <;> omega
      · by_cases hzb : b = .zero
        · rw [if_neg hza, if_pos hzb] at hsg
          split at hsg <;> omega
        · rw [if_neg hza, if_neg hzb] at hsg
          rw [if_neg hza] at h
          have h0 : sizeM a b = 0 := by split at h <;> omega
          have hn : a.neg = b.neg := by
            cases hx : a.neg <;> cases hy : b.neg <;> rw [hx, hy] at hsg <;> simp at hsg <;> rfl
          obtain ⟨h1, h2⟩ := hs h0
          cases a; cases b
          simp only at hn h1 h2
          rw [hn, h1, h2]
    · split at h <;> omega
  · intro h
    rw [h, compareM_sg 1000000 hb hb (Nat.le_refl _), Int.sub_self]
    rfl
theorem compareM_bd (a b : Dec) : -1 ≤ compareM a b ∧ compareM a b ≤ 1 := by
  unfold compareM
  split
  · split
    · exact mul_bd (Dec.sign_bd a) (sizeM_bd a b)
    · split <;> omega
  · unfold rankM; split <;> split <;> omega
theorem sg_swap (x y : Int) : sg (y - x) = - sg (x - y) := by unfold sg; repeat' split
                                                              all_goals omega
theorem compareM_swap (a b : Dec) : compareM b a = - compareM a b := by
  by_cases h : (a.right && b.right) = true
  · have h2 := h
    rw [Bool.and_eq_true] at h2
    rw [compareM_sg 1000000 h2.1 h2.2 (Nat.le_refl _), compareM_sg 1000000 h2.2 h2.1 (Nat.le_refl _), sg_swap]
  · unfold compareM
    rw [if_neg h, if_neg (by rw [Bool.and_comm]; exact h)]
    omega
theorem sg_le {x : Int} : sg x ≤ 0 ↔ x ≤ 0 := by
  unfold sg
  split
  · omega
  · split <;> omega
theorem compareM_trans (a b c : Dec) (h1 : compareM a b ≤ 0) (h2 : compareM b c ≤ 0) : compareM a c ≤ 0 := by
  cases ha : a.right <;> cases hb : b.right <;> cases hc : c.right
  case true.true.true =>
    rw [compareM_sg 1000000 ha hb (Nat.le_refl _), sg_le] at h1
    rw [compareM_sg 1000000 hb hc (Nat.le_refl _), sg_le] at h2
    rw [compareM_sg 1000000 ha hc (Nat.le_refl _), sg_le]
    omega
  all_goals
    unfold compareM at *
    rw [ha, hb] at h1
    rw [hb, hc] at h2
    rw [ha, hc]
    simp [rankM] at *
theorem ofM_cmp (i k : Int) (hi : (Lib.decDigits i.natAbs).length ≤ 1000) (hk : (Lib.decDigits k.natAbs).length ≤ 1000) : compareM (ofM i) (ofM k) = sg (i - k) := by
  rw [compareM_sg (a := ofM i) (b := ofM k) 1000000 (numM_right _ _ hi) (numM_right _ _ hk) (Nat.le_refl _), ofM_at, ofM_at, ← Int.sub_mul]
  have hT := ten_pos 1000000
  generalize (10 : Int) ^ 1000000 = T at *
  generalize i - k = X
  unfold sg
  by_cases h1 : X < 0
  · rw [if_pos h1, if_pos (Int.mul_neg_of_neg_of_pos h1 (by omega))]
  · rw [if_neg h1]
    by_cases h2 : 0 < X
    · have := Int.mul_pos h2 (show 0 < T by omega)
      rw [if_pos h2, if_neg (by omega), if_pos this]
    · rw [if_neg h2, show X = 0 by omega]; simp
end Go.Proofs.YtnlkokgekjlmmaaGreatDoor

namespace Go.Proofs.YtnlkokgekjlmmaaGreatDoor

/-! ### which trees are values -/
def decM (t : Bs) : Bool := decide ((parseM t).2 = 0) && decide (textM (parseM t).1 = t)
def holeM (t : Bs) : Bool := decM t && ((intM (parseM t).1).2 && decide (0 ≤ (intM (parseM t).1).1))
def membersM (ks : List Bs) (n : Nat) : Bool := decide (ks.length = n) && (decide (ks.length ≤ 4096) && (ks.all (fun k => (valid (st k)).2) && decide ks.Nodup))
def scalarM (k : Int) (t : Bs) : Bool :=
  if k = 1 then decide (t = [])
  else if k = 2 then decide (t = [116, 114, 117, 101]) || decide (t = [102, 97, 108, 115, 101])
  else if k = 3 then decM t
  else if k = 4 then (valid (st t)).2
  else if k = 7 then holeM t
  else false
def nodeM (v : Vl) : Bool :=
  if v.k = 5 then decide (v.t = []) && decide (v.ks = [])
  else if v.k = 6 then decide (v.t = []) && membersM v.ks v.is.length
  else (decide (v.ks = []) && decide (v.is = [])) && scalarM v.k v.t
def openM (v : Vl) : Bool := decide (v.size ≤ 4096) && (decide (v.depth ≤ 32) && v.allB nodeM)
def rightM (v : Vl) : Bool := decide (v.size ≤ 4096) && (decide (v.depth ≤ 32) && v.allB (fun x => nodeM x && decide (x.k ≠ 7)))

/-! ### their order -/
abbrev cmpB : Bs → Bs → Int := Lib.compareBytes
theorem cmpB_nil (y : UInt8) (b : Bs) : cmpB [] (y :: b) = -1 := rfl
theorem cmpB_lex : ∀ a b : Bs, cmpB a b = lexM (fun x y : UInt8 => if x < y then -1 else if y < x then 1 else 0) a b
  | [], [] => rfl
  | [], _ :: _ => rfl
  | _ :: _, [] => rfl
  | x :: a, y :: b => by
    have h := cmpB_lex a b
    simp only [cmpB, Lib.compareBytes, lexM] at h ⊢
    rw [h]
    by_cases h1 : x < y
    · simp [h1]
    · by_cases h2 : y < x
      · simp [h1, h2]
      · simp [h1, h2]
theorem ordr_byte : Ordr (fun _ => True) (fun x y : UInt8 => if x < y then -1 else if y < x then (1 : Int) else 0) where
  swap x y _ _ := by
    simp only [UInt8.lt_iff_toNat_lt]
    repeat' split
    all_goals omega
  tr x y z _ _ _ := by
    simp only [UInt8.lt_iff_toNat_lt]
    repeat' split
    all_goals omega
theorem ordr_cmpB : Ordr (fun _ => True) cmpB where
  swap x y _ _ := by rw [cmpB_lex, cmpB_lex]; exact ordr_byte.lex.swap x y (fun _ _ => trivial) (fun _ _ => trivial)
  tr x y z _ _ _ := by rw [cmpB_lex, cmpB_lex, cmpB_lex]; exact ordr_byte.lex.tr x y z (fun _ _ => trivial) (fun _ _ => trivial) (fun _ _ => trivial)
theorem cmpB_eq {a b : Bs} (h : cmpB a b = 0) : a = b := by
  rw [cmpB_lex] at h
  refine lexM_zero a b (fun x _ y _ e => ?_) h
  simp only [UInt8.lt_iff_toNat_lt] at e
  refine UInt8.toNat_inj.1 ?_
  by_cases h1 : x.toNat < y.toNat
  · rw [if_pos h1] at e; cases e
  · rw [if_neg h1] at e
    by_cases h2 : y.toNat < x.toNat
    · rw [if_pos h2] at e; cases e
    · omega
theorem cmpB_self (a : Bs) : cmpB a a = 0 := by have := ordr_cmpB.swap a a trivial trivial; omega
def numT (t : Bs) : Dec := (parseM t).1
mutual
/-- the order of two whose members are in order -/
def cmpV : Vl → Vl → Int
  | .mk k t ks is, w =>
    if k ≠ w.k then (if k < w.k then -1 else 1)
    else if k = 3 then compareM (numT t) (numT w.t)
    else if k = 5 then cmpL is w.is
    else if k = 6 then thenM (lexM cmpB ks w.ks) (cmpL is w.is)
    else cmpB t w.t
def cmpL : List Vl → List Vl → Int
  | [], [] => 0
  | [], _ :: _ => -1
  | _ :: _, [] => 1
  | x :: a, y :: b => if cmpV x y ≠ 0 then cmpV x y else cmpL a b
end
theorem cmpL_lex : ∀ a b : List Vl, cmpL a b = lexM cmpV a b
  | [], [] => by simp only [cmpL, lexM]
  | [], _ :: _ => by simp only [cmpL, lexM]
  | _ :: _, [] => by simp only [cmpL, lexM]
  | x :: a, y :: b => by simp only [cmpL, lexM, cmpL_lex a b]
/-- the order of two of one kind -/
def bodyV (k : Int) (v w : Vl) : Int :=
  if k = 3 then compareM (numT v.t) (numT w.t)
  else if k = 5 then lexM cmpV v.is w.is
  else if k = 6 then thenM (lexM cmpB v.ks w.ks) (lexM cmpV v.is w.is)
  else cmpB v.t w.t
theorem cmpV_eq (v w : Vl) : cmpV v w = if v.k ≠ w.k then (if v.k < w.k then -1 else 1) else bodyV v.k v w := by
  obtain ⟨k, t, ks, is⟩ := v
  obtain ⟨k', t', ks', is'⟩ := w
  simp only [cmpV, bodyV, cmpL_lex, Vl.k, Vl.t, Vl.ks, Vl.is]
  rfl
theorem cmpV_same {v w : Vl} (h : v.k = w.k) : cmpV v w = bodyV v.k v w := by rw [cmpV_eq]; exact if_neg (fun e => e h)
theorem cmpV_lt {v w : Vl} (h : v.k < w.k) : cmpV v w = -1 := by rw [cmpV_eq]; exact (if_pos (by omega)).trans (if_pos h)
theorem cmpV_gt {v w : Vl} (h : w.k < v.k) : cmpV v w = 1 := by rw [cmpV_eq]; exact (if_pos (by omega)).trans (if_neg (by omega))
theorem ordr_body (n : Nat) (h : Ordr (fun v : Vl => v.depth ≤ n) cmpV) (k : Int) : Ordr (fun v : Vl => v.depth ≤ n + 1) (bodyV k) := by
  have hi : ∀ v : Vl, v.depth ≤ n + 1 → ∀ x ∈ v.is, x.depth ≤ n := fun v hv x hx => by
    obtain ⟨k, t, ks, is⟩ := v
    have := Vl.depths_le x hx
    simp only [Vl.depth] at hv
    simp only [Vl.is] at this
    omega
  by_cases h3 : k = 3
  · subst h3
    exact ⟨fun x y _ _ => compareM_swap _ _, fun x y z _ _ _ => compareM_trans _ _ _⟩
  by_cases h5 : k = 5
  · subst h5
    exact h.lex.map Vl.is hi
  by_cases h6 : k = 6
  · subst h6
    exact ((ordr_cmpB.lex).map (R := fun v : Vl => v.depth ≤ n + 1) Vl.ks (fun _ _ _ _ => trivial)).then (h.lex.map Vl.is hi)
  · have e : bodyV k = fun v w => cmpB v.t w.t := by
      funext v w
      unfold bodyV
      rw [if_neg h3, if_neg h5, if_neg h6]
    rw [e]
    exact ordr_cmpB.map (R := fun v : Vl => v.depth ≤ n + 1) Vl.t (fun _ _ => trivial)
theorem ordr_upto : ∀ n : Nat, Ordr (fun v : Vl => v.depth ≤ n) cmpV
  | 0 => ⟨fun x _ h => absurd h (by have := x.depth_pos; omega), fun x _ _ h => absurd h (by have := x.depth_pos; omega)⟩
  | n + 1 => by
    have hb := ordr_body n (ordr_upto n)
    constructor
    · intro x y sx sy
      rcases Int.lt_trichotomy x.k y.k with e | e | e
      · rw [cmpV_lt e, cmpV_gt e]; rfl
      · rw [cmpV_same e, cmpV_same e.symm, ← e]; exact (hb x.k).swap x y sx sy
      · rw [cmpV_lt e, cmpV_gt e]
    · intro x y z sx sy sz
      rcases Int.lt_trichotomy x.k y.k with e | e | e
      · rcases Int.lt_trichotomy y.k z.k with e2 | e2 | e2
        · rw [cmpV_lt (v := x) (w := z) (by omega)]; intro _ _; omega
        · rw [cmpV_lt (v := x) (w := z) (by omega)]; intro _ _; omega
        · rw [cmpV_gt e2]; intro _ h; omega
      · rcases Int.lt_trichotomy y.k z.k with e2 | e2 | e2
        · rw [cmpV_lt (v := x) (w := z) (by omega)]; intro _ _; omega
        · rw [cmpV_same e, cmpV_same e2, cmpV_same (e.trans e2), ← e]; exact (hb x.k).tr x y z sx sy sz
        · rw [cmpV_gt e2]; intro _ h; omega
      · rw [cmpV_gt e]; intro h; omega
theorem ordr_cmpV : Ordr (fun _ => True) cmpV where
  swap x y _ _ := (ordr_upto (max x.depth y.depth)).swap x y (by omega) (by omega)
  tr x y z _ _ _ := (ordr_upto (max (max x.depth y.depth) z.depth)).tr x y z (by omega) (by omega) (by omega)
theorem bodyV_bd (k : Int) (v w : Vl) (ih : ∀ x ∈ v.is, ∀ w, -1 ≤ cmpV x w ∧ cmpV x w ≤ 1) : -1 ≤ bodyV k v w ∧ bodyV k v w ≤ 1 := by
  have a1 := lexM_bd v.ks w.ks (f := cmpB) (fun x _ y => compareBytes_bd x y)
  have a2 := lexM_bd v.is w.is (f := cmpV) ih
  have a3 := compareM_bd (numT v.t) (numT w.t)
  have a4 := compareBytes_bd v.t w.t
  unfold bodyV thenM
  repeat' split
  all_goals first | exact a1 | exact a2 | exact a3 | exact a4
theorem cmpV_bd : ∀ v w : Vl, -1 ≤ cmpV v w ∧ cmpV v w ≤ 1 := Vl.ind (fun k t ks is ih w => by
  rcases Int.lt_trichotomy k w.k with e | e | e
  · rw [cmpV_lt (v := .mk k t ks is) e]; omega
  · rw [cmpV_same (v := .mk k t ks is) e]; exact bodyV_bd _ _ _ ih
  · rw [cmpV_gt (v := .mk k t ks is) e]; omega)
mutual
/-- members in order, in all depths -/
def sortV : Vl → Vl
  | .mk k t ks is => if k = 6 then .mk k t ((isort cmpB (ks.zip (sortL is))).map (·.1)) ((isort cmpB (ks.zip (sortL is))).map (·.2)) else .mk k t [] (sortL is)
def sortL : List Vl → List Vl
  | [] => []
  | v :: l => sortV v :: sortL l
end
theorem sortL_map : ∀ l : List Vl, sortL l = l.map sortV
  | [] => rfl
  | v :: l => by simp only [sortL, List.map_cons, sortL_map l]
theorem sortV_k (v : Vl) : (sortV v).k = v.k := by obtain ⟨k, t, ks, is⟩ := v; simp only [sortV]; split <;> rfl
theorem sortV_t (v : Vl) : (sortV v).t = v.t := by obtain ⟨k, t, ks, is⟩ := v; simp only [sortV]; split <;> rfl
/-- Compare of any two -/
def compM (a b : Vl) : Int :=
  if openM a = true then (if openM b = true then cmpV (sortV a) (sortV b) else 1)
  else (if openM b = true then -1 else 0)
def sameM (a b : Vl) : Bool := openM a && (openM b && decide (cmpV (sortV a) (sortV b) = 0))
theorem compM_bd (a b : Vl) : -1 ≤ compM a b ∧ compM a b ≤ 1 := by
  have := cmpV_bd (sortV a) (sortV b)
  unfold compM
  repeat' split
  all_goals omega
theorem compM_swap (a b : Vl) : compM b a = - compM a b := by
  have := ordr_cmpV.swap (sortV a) (sortV b) trivial trivial
  unfold compM
  repeat' split
  all_goals omega
theorem compM_self (a : Vl) : compM a a = 0 := by have := compM_swap a a; omega
theorem compM_trans (a b c : Vl) (h1 : compM a b ≤ 0) (h2 : compM b c ≤ 0) : compM a c ≤ 0 := by
  have := ordr_cmpV.tr (sortV a) (sortV b) (sortV c) trivial trivial trivial
  unfold compM at *
  by_cases ha : openM a = true
  · by_cases hb : openM b = true
    · by_cases hc : openM c = true
      · simp only [ha, hb, hc, if_true] at *; exact this h1 h2
      · simp only [hb, hc, if_true] at h2; simp at h2
    · simp only [ha, hb, if_true] at h1; simp at h1
  · by_cases hb : openM b = true
    · by_cases hc : openM c = true
      · simp only [ha, hb, hc] at *; simp
      · simp only [hb, hc, if_true] at h2; simp at h2
    · by_cases hc : openM c = true
      · simp only [ha, hc] at *; simp
      · simp only [ha, hc] at *; simp
end Go.Proofs.YtnlkokgekjlmmaaGreatDoor

namespace Go.Proofs.YtnlkokgekjlmmaaGreatDoor

/-- the items' numbers, in the order of their keys -/
structure ByKey (ks : List Bs) (n : Nat) (x : List Nat) : Prop where
  perm : x.Perm (List.range n)
  sorted : x.Pairwise (fun i j => cmpB (keyAt ks i) (keyAt ks j) < 0)
theorem ByKey.lt {ks : List Bs} {n : Nat} {x : List Nat} (h : ByKey ks n x) : ∀ i ∈ x, i < n := fun _i hi => List.mem_range.1 (h.perm.mem_iff.1 hi)
theorem ByKey.len {ks : List Bs} {n : Nat} {x : List Nat} (h : ByKey ks n x) : x.length = n := by rw [h.perm.length_eq, List.length_range]
theorem zip_range {α : Type} [Inhabited α] (ks : List Bs) (l : List α) (h : ks.length = l.length) : ks.zip l = (List.range l.length).map (fun i => (keyAt ks i, l.getD i default)) := by
  apply List.ext_getElem
  · simp [h]
  · intro i h1 h2
    simp only [List.length_zip] at h1
    have h3 : i < ks.length := by omega
    have h4 : i < l.length := by omega
    simp [keyAt, h3, h4]
theorem isort_byKey {α : Type} [Inhabited α] {ks : List Bs} {x : List Nat} (l : List α) (hl : ks.length = l.length) (hn : ks.Nodup) (h : ByKey ks l.length x) : isort cmpB (ks.zip l) = x.map (fun i => (keyAt ks i, l.getD i default)) := by
  refine sorted_uniq (fun a b => cmpB a.1 b.1 < 0) (fun a b h1 h2 => ?_) _ _ ?_ ?_ ?_
  · have := ordr_cmpB.swap a.1 b.1 trivial trivial; omega
  · refine (isort_perm cmpB _).trans ?_
    rw [zip_range ks l hl]
    exact (h.perm.map _).symm
  · have h1 := isort_sorted ordr_cmpB (ks.zip l)
    have h2 : ((isort cmpB (ks.zip l)).map (·.1)).Nodup := by
      refine ((isort_perm cmpB (ks.zip l)).map (·.1)).nodup_iff.2 ?_
      rw [List.map_fst_zip (by omega)]
      exact hn
    have h3 : (isort cmpB (ks.zip l)).Pairwise (fun a b => a.1 ≠ b.1) := by
      have := List.pairwise_map.1 h2
      exact this
    refine (h1.and h3).imp ?_
    rintro a b ⟨h4, h5⟩
    have : cmpB a.1 b.1 ≠ 0 := fun e => h5 (cmpB_eq e)
    omega
  · rw [List.pairwise_map]
    exact h.sorted
theorem sortV_obj {t : Bs} {ks : List Bs} {is : List Vl} {x : List Nat} (hl : ks.length = is.length) (hn : ks.Nodup) (h : ByKey ks is.length x) :
    sortV (.mk 6 t ks is) = .mk 6 t (x.map (keyAt ks)) (x.map (fun i => sortV (is.getD i default))) := by
  have h1 := isort_byKey (ks := ks) (x := x) (sortL is) (by rw [sortL_map, List.length_map]; exact hl) hn (by rw [sortL_map, List.length_map]; exact h)
  simp only [sortV]
  rw [if_pos trivial, h1, List.map_map, List.map_map]
  congr 1
  refine List.map_congr_left (fun i hi => ?_)
  have hil := h.lt i hi
  simp [sortL_map, hil]
theorem sortV_else {k : Int} {t : Bs} {ks : List Bs} {is : List Vl} (h : k ≠ 6) : sortV (.mk k t ks is) = .mk k t [] (is.map sortV) := by
  simp only [sortV]; rw [if_neg h, sortL_map]

/-- keys that are unlike order their numbers -/
def cfK (ks : List Bs) (n : Nat) (i j : Fin n) : Int := cmpB (keyAt ks i.val) (keyAt ks j.val)
theorem cfK_swo (ks : List Bs) (n : Nat) : Sort.SWO (ltOf (cfK ks n)) where
  irrefl x := by unfold ltOf cfK; rw [cmpB_self]; rfl
  trans x y z h1 h2 := by
    unfold ltOf cfK at *
    simp only [decide_eq_true_eq] at *
    have a1 := ordr_cmpB.tr (keyAt ks x.val) (keyAt ks y.val) (keyAt ks z.val) trivial trivial trivial (by omega) (by omega)
    have a2 := ordr_cmpB.strict (keyAt ks x.val) (keyAt ks y.val) (keyAt ks z.val) trivial trivial trivial (by omega) (by omega)
    omega
  ntrans x y z h1 h2 := by
    unfold ltOf cfK at *
    simp only [decide_eq_false_iff_not] at *
    have s1 := ordr_cmpB.swap (keyAt ks x.val) (keyAt ks y.val) trivial trivial
    have s2 := ordr_cmpB.swap (keyAt ks y.val) (keyAt ks z.val) trivial trivial
    have s3 := ordr_cmpB.swap (keyAt ks x.val) (keyAt ks z.val) trivial trivial
    have a1 := ordr_cmpB.tr (keyAt ks z.val) (keyAt ks y.val) (keyAt ks x.val) trivial trivial trivial (by omega) (by omega)
    omega
theorem cfK_total {ks : List Bs} {n : Nat} (hn : ks.Nodup) (hl : ks.length = n) : ∀ x y : Fin n, ltOf (cfK ks n) x y = false → ltOf (cfK ks n) y x = false → x = y := fun x y h1 h2 => by
  unfold ltOf cfK at *
  simp only [decide_eq_false_iff_not] at *
  have s1 := ordr_cmpB.swap (keyAt ks x.val) (keyAt ks y.val) trivial trivial
  have e := cmpB_eq (show cmpB (keyAt ks x.val) (keyAt ks y.val) = 0 by omega)
  have hx : x.val < ks.length := by omega
  have hy : y.val < ks.length := by omega
  rw [keyAt_lt hx, keyAt_lt hy] at e
  exact Fin.ext ((List.getElem_inj hn).1 e)
theorem byKey_merge {ks : List Bs} {n : Nat} (hn : ks.Nodup) (hl : ks.length = n) : ByKey ks n (((List.finRange n).mergeSort (fun x y => !ltOf (cfK ks n) y x)).map Fin.val) where
  perm := by
    refine ((List.mergeSort_perm _ _).map Fin.val).trans ?_
    rw [show (List.finRange n).map Fin.val = List.range n by apply List.ext_getElem <;> simp]
  sorted := by
    have hswo := cfK_swo ks n
    have h1 := List.pairwise_mergeSort (le := fun x y => !ltOf (cfK ks n) y x) (fun a b c h1 h2 => by
      simp only [Bool.not_eq_true'] at *
      exact hswo.ntrans c b a h2 h1) (fun a b => by
      simp only [Bool.or_eq_true, Bool.not_eq_true']
      cases h1 : ltOf (cfK ks n) b a with
      | false => exact .inl rfl
      | true =>
        refine .inr ?_
        cases h2 : ltOf (cfK ks n) a b with
        | false => rfl
        | true => have := hswo.trans a b a h2 h1; rw [hswo.irrefl] at this; cases this) (List.finRange n)
    have h2 : ((List.finRange n).mergeSort (fun x y => !ltOf (cfK ks n) y x)).Nodup := (List.mergeSort_perm _ _).nodup_iff.2 (List.nodup_finRange n)
    rw [List.pairwise_map]
    refine (h1.and h2).imp ?_
    rintro a b ⟨h3, h4⟩
    simp only [Bool.not_eq_true'] at h3
    have s1 := ordr_cmpB.swap (keyAt ks a.val) (keyAt ks b.val) trivial trivial
    cases h5 : ltOf (cfK ks n) a b with
    | false => exact absurd (cfK_total hn hl a b h5 h3) h4
    | true => unfold ltOf cfK at h5; simpa using h5
end Go.Proofs.YtnlkokgekjlmmaaGreatDoor
