/-
  PLAIN MATHEMATICS: Compare of right numbers is 0 of equal ones alone; it is an order; of ints that of ints.
  PLAIN MATHEMATICS: which trees are values, and their order.
  PLAIN MATHEMATICS: the items' numbers in the order of their keys.
-/
import Derived.Test.YtnlkokgekjlmmaaGreatDoorNumK
import Derived.Test.YtnlkokgekjlmmaaGreatDoorBas
import Derived.Test.YtnlkokgekjlmmaaGreatDoorRun
import Derived.Shelf.SlSortCmp.Insertion
namespace Go.Proofs.YtnlkokgekjlmmaaGreatDoor
open Go.RowKit
end Go.Proofs.YtnlkokgekjlmmaaGreatDoor
namespace Go.Proofs.YtnlkokgekjlmmaaGreatDoor
/-! ### which trees are values -/
def decM (t : Bs) : Bool := decide ((parseM t).2 = 0) && decide (textM (parseM t).1 = t)
def holeM (t : Bs) : Bool := decM t && ((intM (parseM t).1).2 && decide (0 ≤ (intM (parseM t).1).1))
def membersM (ks : List Bs) (n : Nat) : Bool := decide (ks.length = n) && (decide (ks.length ≤ 4096) && (ks.all (fun k => (valid (st k)).2) && decide ks.Nodup))
def scalarM (k : Int) (t : Bs) : Bool :=
  if k = 1 then decide (t = [])
  else if k = 2 then decide (t = [116, 114, 117, 101]) || decide (t = [102, 97, 108, 115, 101])
  else if k = 3 then decM t
  else if k = 4 then (valid (st t)).2
  else if k = 7 then holeM t
  else false
def nodeM (v : Vl) : Bool :=
  if v.k = 5 then decide (v.t = []) && decide (v.ks = [])
  else if v.k = 6 then decide (v.t = []) && membersM v.ks v.is.length
  else (decide (v.ks = []) && decide (v.is = [])) && scalarM v.k v.t
def openM (v : Vl) : Bool := decide (v.size ≤ 4096) && (decide (v.depth ≤ 32) && v.allB nodeM)
def rightM (v : Vl) : Bool := decide (v.size ≤ 4096) && (decide (v.depth ≤ 32) && v.allB (fun x => nodeM x && decide (x.k ≠ 7)))
/-! ### their order -/
abbrev cmpB : Bs → Bs → Int := Lib.compareBytes
theorem cmpB_lex : ∀ a b : Bs, cmpB a b = lexM (fun x y : UInt8 => if x < y then -1 else if y < x then 1 else 0) a b
  | [], [] => rfl
  | [], _ :: _ => rfl
  | _ :: _, [] => rfl
  | x :: a, y :: b => by
    have h := cmpB_lex a b
    simp only [cmpB, Lib.compareBytes, lexM] at h ⊢
    rw [h]
    by_cases h1 : x < y
    · simp [h1]
    · by_cases h2 : y < x
      · simp [h1, h2]
      · simp [h1, h2]
theorem ordr_byte : Ordr (fun _ => True) (fun x y : UInt8 => if x < y then -1 else if y < x then (1 : Int) else 0) where
  swap x y _ _ := by
    simp only [UInt8.lt_iff_toNat_lt]
    repeat' split
    all_goals omega
  tr x y z _ _ _ := by
    simp only [UInt8.lt_iff_toNat_lt]
    repeat' split
    all_goals omega
theorem ordr_cmpB : Ordr (fun _ => True) cmpB where
  swap x y _ _ := by rw [cmpB_lex, cmpB_lex]; exact ordr_byte.lex.swap x y (fun _ _ => trivial) (fun _ _ => trivial)
  tr x y z _ _ _ := by rw [cmpB_lex, cmpB_lex, cmpB_lex]; exact ordr_byte.lex.tr x y z (fun _ _ => trivial) (fun _ _ => trivial) (fun _ _ => trivial)
theorem cmpB_eq {a b : Bs} (h : cmpB a b = 0) : a = b := by
  rw [cmpB_lex] at h
  refine lexM_zero a b (fun x _ y _ e => ?_) h
  simp only [UInt8.lt_iff_toNat_lt] at e
  refine UInt8.toNat_inj.1 ?_
  by_cases h1 : x.toNat < y.toNat
  · rw [if_pos h1] at e; cases e
  · rw [if_neg h1] at e
    by_cases h2 : y.toNat < x.toNat
    · rw [if_pos h2] at e; cases e
    · omega
theorem cmpB_self (a : Bs) : cmpB a a = 0 := by have := ordr_cmpB.swap a a trivial trivial; omega
def numT (t : Bs) : Dec := (parseM t).1
mutual
def cmpV : Vl → Vl → Int
  | .mk k t ks is, w =>
    if k ≠ w.k then (if k < w.k then -1 else 1)
    else if k = 3 then compareM (numT t) (numT w.t)
    else if k = 5 then cmpL is w.is
    else if k = 6 then thenM (lexM cmpB ks w.ks) (cmpL is w.is)
    else cmpB t w.t
def cmpL : List Vl → List Vl → Int
  | [], [] => 0
  | [], _ :: _ => -1
  | _ :: _, [] => 1
  | x :: a, y :: b => if cmpV x y ≠ 0 then cmpV x y else cmpL a b
end
def bodyV (k : Int) (v w : Vl) : Int :=
  if k = 3 then compareM (numT v.t) (numT w.t)
  else if k = 5 then lexM cmpV v.is w.is
  else if k = 6 then thenM (lexM cmpB v.ks w.ks) (lexM cmpV v.is w.is)
  else cmpB v.t w.t
mutual
def sortV : Vl → Vl
  | .mk k t ks is => if k = 6 then .mk k t ((isort cmpB (ks.zip (sortL is))).map (·.1)) ((isort cmpB (ks.zip (sortL is))).map (·.2)) else .mk k t [] (sortL is)
def sortL : List Vl → List Vl
  | [] => []
  | v :: l => sortV v :: sortL l
end
theorem sortL_map : ∀ l : List Vl, sortL l = l.map sortV
  | [] => rfl
  | v :: l => by simp only [sortL, List.map_cons, sortL_map l]
def compM (a b : Vl) : Int :=
  if openM a = true then (if openM b = true then cmpV (sortV a) (sortV b) else 1)
  else (if openM b = true then -1 else 0)
def sameM (a b : Vl) : Bool := openM a && (openM b && decide (cmpV (sortV a) (sortV b) = 0))
end Go.Proofs.YtnlkokgekjlmmaaGreatDoor
namespace Go.Proofs.YtnlkokgekjlmmaaGreatDoor
structure ByKey (ks : List Bs) (n : Nat) (x : List Nat) : Prop where
  perm : x.Perm (List.range n)
  sorted : x.Pairwise (fun i j => cmpB (keyAt ks i) (keyAt ks j) < 0)
theorem ByKey.lt {ks : List Bs} {n : Nat} {x : List Nat} (h : ByKey ks n x) : ∀ i ∈ x, i < n := fun _i hi => List.mem_range.1 (h.perm.mem_iff.1 hi)
theorem ByKey.len {ks : List Bs} {n : Nat} {x : List Nat} (h : ByKey ks n x) : x.length = n := by rw [h.perm.length_eq, List.length_range]
theorem zip_range {α : Type} [Inhabited α] (ks : List Bs) (l : List α) (h : ks.length = l.length) : ks.zip l = (List.range l.length).map (fun i => (keyAt ks i, l.getD i default)) := by
  apply List.ext_getElem
  · simp [h]
  · intro i h1 h2
    simp only [List.length_zip] at h1
    have h3 : i < ks.length := by omega
    have h4 : i < l.length := by omega
    simp [keyAt, h3, h4]
theorem isort_byKey {α : Type} [Inhabited α] {ks : List Bs} {x : List Nat} (l : List α) (hl : ks.length = l.length) (hn : ks.Nodup) (h : ByKey ks l.length x) : isort cmpB (ks.zip l) = x.map (fun i => (keyAt ks i, l.getD i default)) := by
  refine sorted_uniq (fun a b => cmpB a.1 b.1 < 0) (fun a b h1 h2 => ?_) _ _ ?_ ?_ ?_
  · have := ordr_cmpB.swap a.1 b.1 trivial trivial; omega
  · refine (isort_perm cmpB _).trans ?_
    rw [zip_range ks l hl]
    exact (h.perm.map _).symm
  · have h1 := isort_sorted ordr_cmpB (ks.zip l)
    have h2 : ((isort cmpB (ks.zip l)).map (·.1)).Nodup := by
      refine ((isort_perm cmpB (ks.zip l)).map (·.1)).nodup_iff.2 ?_
      rw [List.map_fst_zip (by omega)]
      exact hn
    have h3 : (isort cmpB (ks.zip l)).Pairwise (fun a b => a.1 ≠ b.1) := by
      have := List.pairwise_map.1 h2
      exact this
    refine (h1.and h3).imp ?_
    rintro a b ⟨h4, h5⟩
    have : cmpB a.1 b.1 ≠ 0 := fun e => h5 (cmpB_eq e)
    omega
  · rw [List.pairwise_map]
    exact h.sorted
theorem sortV_obj {t : Bs} {ks : List Bs} {is : List Vl} {x : List Nat} (hl : ks.length = is.length) (hn : ks.Nodup) (h : ByKey ks is.length x) :
    sortV (.mk 6 t ks is) = .mk 6 t (x.map (keyAt ks)) (x.map (fun i => sortV (is.getD i default))) := by
  have h1 := isort_byKey (ks := ks) (x := x) (sortL is) (by rw [sortL_map, List.length_map]; exact hl) hn (by rw [sortL_map, List.length_map]; exact h)
  simp only [sortV]
  rw [if_pos trivial, h1, List.map_map, List.map_map]
  congr 1
  refine List.map_congr_left (fun i hi => ?_)
  have hil := h.lt i hi
  simp [sortL_map, hil]
theorem sortV_else {k : Int} {t : Bs} {ks : List Bs} {is : List Vl} (h : k ≠ 6) : sortV (.mk k t ks is) = .mk k t [] (is.map sortV) := by
  simp only [sortV]; rw [if_neg h, sortL_map]
def cfK (ks : List Bs) (n : Nat) (i j : Fin n) : Int := cmpB (keyAt ks i.val) (keyAt ks j.val)
theorem cfK_swo (ks : List Bs) (n : Nat) : Sort.SWO (ltOf (cfK ks n)) where
  irrefl x := by unfold ltOf cfK; rw [cmpB_self]; rfl
  trans x y z h1 h2 := by
    unfold ltOf cfK at *
    simp only [decide_eq_true_eq] at *
    have a1 := ordr_cmpB.tr (keyAt ks x.val) (keyAt ks y.val) (keyAt ks z.val) trivial trivial trivial (by omega) (by omega)
    have a2 := ordr_cmpB.strict (keyAt ks x.val) (keyAt ks y.val) (keyAt ks z.val) trivial trivial trivial (by omega) (by omega)
    omega
  ntrans x y z h1 h2 := by
    unfold ltOf cfK at *
    simp only [decide_eq_false_iff_not] at *
    have s1 := ordr_cmpB.swap (keyAt ks x.val) (keyAt ks y.val) trivial trivial
    have s2 := ordr_cmpB.swap (keyAt ks y.val) (keyAt ks z.val) trivial trivial
    have s3 := ordr_cmpB.swap (keyAt ks x.val) (keyAt ks z.val) trivial trivial
    have a1 := ordr_cmpB.tr (keyAt ks z.val) (keyAt ks y.val) (keyAt ks x.val) trivial trivial trivial (by omega) (by omega)
    omega
theorem cfK_total {ks : List Bs} {n : Nat} (hn : ks.Nodup) (hl : ks.length = n) : ∀ x y : Fin n, ltOf (cfK ks n) x y = false → ltOf (cfK ks n) y x = false → x = y := fun x y h1 h2 => by
  unfold ltOf cfK at *
  simp only [decide_eq_false_iff_not] at *
  have s1 := ordr_cmpB.swap (keyAt ks x.val) (keyAt ks y.val) trivial trivial
  have e := cmpB_eq (show cmpB (keyAt ks x.val) (keyAt ks y.val) = 0 by omega)
  have hx : x.val < ks.length := by omega
  have hy : y.val < ks.length := by omega
  rw [keyAt_lt hx, keyAt_lt hy] at e
  exact Fin.ext ((List.getElem_inj hn).1 e)
theorem byKey_merge {ks : List Bs} {n : Nat} (hn : ks.Nodup) (hl : ks.length = n) : ByKey ks n (((List.finRange n).mergeSort (fun x y => !ltOf (cfK ks n) y x)).map Fin.val) where
  perm := by
    refine ((List.mergeSort_perm _ _).map Fin.val).trans ?_
    rw [show (List.finRange n).map Fin.val = List.range n by apply List.ext_getElem <;> simp]
  sorted := by
    have hswo := cfK_swo ks n
    have h1 := List.pairwise_mergeSort (le := fun x y => !ltOf (cfK ks n) y x) (fun a b c h1 h2 => by
      simp only [Bool.not_eq_true'] at *
      exact hswo.ntrans c b a h2 h1) (fun a b => by
      simp only [Bool.or_eq_true, Bool.not_eq_true']
      cases h1 : ltOf (cfK ks n) b a with
      | false => exact .inl rfl
      | true =>
        refine .inr ?_
        cases h2 : ltOf (cfK ks n) a b with
        | false => rfl
        | true => have := hswo.trans a b a h2 h1; rw [hswo.irrefl] at this; cases this) (List.finRange n)
    have h2 : ((List.finRange n).mergeSort (fun x y => !ltOf (cfK ks n) y x)).Nodup := (List.mergeSort_perm _ _).nodup_iff.2 (List.nodup_finRange n)
    rw [List.pairwise_map]
    refine (h1.and h2).imp ?_
    rintro a b ⟨h3, h4⟩
    simp only [Bool.not_eq_true'] at h3
    have s1 := ordr_cmpB.swap (keyAt ks a.val) (keyAt ks b.val) trivial trivial
    cases h5 : ltOf (cfK ks n) a b with
    | false => exact absurd (cfK_total hn hl a b h5 h3) h4
    | true => unfold ltOf cfK at h5; simpa using h5
end Go.Proofs.YtnlkokgekjlmmaaGreatDoor
