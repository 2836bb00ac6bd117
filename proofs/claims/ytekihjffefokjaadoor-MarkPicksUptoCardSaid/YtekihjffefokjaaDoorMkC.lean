/-
  THE WAY BACK, AS THE PROGRAM GOES IT; Atoi of what stands ahead of the first line's end.
-/
import Derived.Test.YtekihjffefokjaaDoorMkG
import Derived.Test.YtekihjffefokjaaDoorMkD
import Derived.Test.YtekihjffefokjaaDoorShelf
import Derived.Lib.AtoiTie
import Derived.Lib.AtoiErrMem
namespace Go.Proofs.YtekihjffefokjaaDoor
open Go.RowKit

/-- the two errors lie -/
def ErrTwo (w : World) : Prop := (∃ te pe, w.cell? ⟨2, 0, none⟩ = some (.iface te pe)) ∧ ∃ te pe, w.cell? ⟨1, 0, none⟩ = some (.iface te pe)
theorem ErrTwo.grow {w W : World} (h : ErrTwo w) (hb : Below w.heap.size w W) : ErrTwo W := by
  obtain ⟨⟨a, b, h1⟩, c, d, h2⟩ := h
  exact ⟨⟨a, b, by rw [hb.cell (cell_lt h1)]; exact h1⟩, c, d, by rw [hb.cell (cell_lt h2)]; exact h2⟩
def atoiV (b : Bs) : Option Int := match Lib.atoiAll b with
  | .ok v => some v
  | _ => none
def AtPost (b : Bs) (w : World) (e : Ending) (w' : World) : Prop :=
  (match atoiV b with
  | some v => e = .returned (.tuple #[.int .i64 v, .nilIface])
  | none => ∃ v N, e = .returned (.tuple #[.int .i64 v, .iface 134 (.pointer (some ⟨N, 0, none⟩))])) ∧ Below w.heap.size w w'
theorem atoi_any (b : Bs) (w : World) (hb : b.length ≤ 16777216) (hE : ErrTwo w) : Calls Tryd.prog 64 #[.string (st b)] w (AtPost b w) := by
  have hz : (st b).size ≤ 16777216 := by rw [st_size]; exact hb
  obtain ⟨⟨a, c, h1⟩, d, e, h2⟩ := hE
  unfold AtPost atoiV
  have h3 : (st b).data.toList = b := st_list b
  rcases hA : Lib.atoiAll b with v | _ | _
  · refine (Tryd.strconv_Atoi_ok _ (by omega) v (by rw [h3]; exact hA) w).mono ?_
    rintro e w' ⟨rfl, hw⟩
    refine ⟨rfl, ?_⟩
    rcases hw with h | ⟨t, h⟩
    · rw [h]; exact Below.refl _ _
    · rw [h]; exact Lib.bytesWorld_below w _ t
  · refine (Any.strconv_Atoi_syntax Tryd.laysC172 _ (by omega) (by rw [h3]; exact hA) _ w h2 (.inr ⟨_, _, rfl⟩)).mono ?_
    rintro e w' ⟨N, rfl, _, _, hb⟩
    exact ⟨⟨_, N, rfl⟩, hb⟩
  · refine (Tryd.strconv_Atoi_range _ (by omega) (by rw [h3]; exact hA) _ w h1 (.inr ⟨_, _, rfl⟩)).mono ?_
    rintro e w' ⟨N, rfl, _, _, hb⟩
    exact ⟨⟨_, N, rfl⟩, hb⟩

theorem digitVal_of {d : Nat} (h : d < 10) : Lib.digitVal (UInt8.ofNat (48 + d)) = some d := by
  have e : (UInt8.ofNat (48 + d)).toNat = 48 + d := by simp; omega
  unfold Lib.digitVal
  rw [e, if_pos (by omega)]
  congr 1
  omega
theorem decFrom_snoc (c : UInt8) : ∀ (l : Bs) (a : Nat), Lib.decFrom a (l ++ [c]) = (Lib.decFrom a l).bind fun n => (Lib.digitVal c).map fun d => n * 10 + d
  | [], a => by
    show (match Lib.digitVal c with | some d => Lib.decFrom (a * 10 + d) [] | none => none) = _
    cases Lib.digitVal c <;> rfl
  | b :: l, a => by
    show (match Lib.digitVal b with | some d => Lib.decFrom (a * 10 + d) (l ++ [c]) | none => none) = (match Lib.digitVal b with | some d => Lib.decFrom (a * 10 + d) l | none => none).bind _
    cases Lib.digitVal b with
    | none => rfl
    | some d => exact decFrom_snoc c l _
theorem decFrom_dig (n : Nat) : Lib.decFrom 0 (Lib.decDigits n) = some n := by
  induction n using Nat.strongRecOn with
  | ind n ih =>
    unfold Lib.decDigits
    split
    · rename_i h
      show (match Lib.digitVal (UInt8.ofNat (48 + n)) with | some d => Lib.decFrom (0 * 10 + d) [] | none => none) = _
      rw [digitVal_of h]
      show some (0 * 10 + n) = some n
      congr 1
      omega
    · rename_i h
      rw [decFrom_snoc, ih (n / 10) (by omega), digitVal_of (by omega)]
      show some (n / 10 * 10 + n % 10) = some n
      congr 1
      omega
theorem dig_head (n : Nat) : ∃ c r, Lib.decDigits n = c :: r ∧ 48 ≤ c.toNat := by
  induction n using Nat.strongRecOn with
  | ind n ih =>
    unfold Lib.decDigits
    split
    · refine ⟨_, [], rfl, ?_⟩
      simp; omega
    · obtain ⟨c, r, h, hc⟩ := ih (n / 10) (by omega)
      rw [h]
      exact ⟨c, r ++ _, rfl, hc⟩
theorem nDig_le : ∀ (k n : Nat), n < 10 ^ k → Lib.nDigits n ≤ k + 1
  | 0, n, h => by
    have : n = 0 := by rw [Nat.pow_zero] at h; omega
    subst this
    rw [Lib.nDigits_small (by decide)]
    exact Nat.le_refl _
  | k + 1, n, h => by
    by_cases hn : n < 10
    · rw [Lib.nDigits_small hn]; omega
    · rw [Lib.nDigits_big hn]
      have := nDig_le k (n / 10) (by rw [Nat.pow_succ] at h; omega)
      omega
theorem atoiV_dig {n : Nat} (h : n ≤ 16777216) : atoiV (Lib.decDigits n) = some (n : Int) := by
  have hl : (Lib.decDigits n).length ≤ 18 := by
    rw [Lib.decDigits_length]
    exact Nat.le_trans (nDig_le 8 n (by omega)) (by decide)
  unfold atoiV
  rw [Lib.atoiAll_short _ hl]
  obtain ⟨c, r, hc, h48⟩ := dig_head n
  have hd : Lib.decNat (c :: r) = some n := by
    unfold Lib.decNat
    rw [← hc, decFrom_dig, hc]
    rfl
  have e1 : (c == 45) = false := by
    rw [beq_eq_false_iff_ne]; rintro rfl; exact absurd h48 (by decide)
  have e2 : (c == 43) = false := by
    rw [beq_eq_false_iff_ne]; rintro rfl; exact absurd h48 (by decide)
  rw [hc]
  unfold Lib.atoi
  simp only [e1, e2, hd, Bool.false_eq_true, if_false]
  rfl

/-- the first line, and what stands behind it -/
def hdM (s : Bs) : Bs := match cutL [10] s with | none => s | some (a, _) => a
def bdM (s : Bs) : Bs := match cutL [10] s with | none => [] | some (_, b) => b
/-- the width that is told -/
def numIn (s : Bs) : Option Nat :=
  if Lib.hasPrefix (hdM s) headL = true then
    match atoiV (Lib.trimPrefix (hdM s) headL) with
    | some v => if 7 ≤ v ∧ v ≤ ((bdM s).length : Int) then some v.toNat else none
    | none => none
  else none
def endM (s : Bs) (l : List MPart) : Option (List MPart) := if anyH l = true ∧ rightB l = true ∧ encM l = s then some l else none
def decF (s : Bs) : Option (List MPart) :=
  match numIn s with
  | none => none
  | some n => match partsM n ((bdM s).length + 1) (bdM s) with
    | none => none
    | some l => endM s l
theorem hd_le (s : Bs) : (hdM s).length ≤ s.length := by
  unfold hdM
  cases h : cutL [10] s with
  | none => exact Nat.le_refl _
  | some p => obtain ⟨a, b⟩ := p; have := cutL_len h; show a.length ≤ _; omega
theorem bd_le (s : Bs) : (bdM s).length ≤ s.length := by
  unfold bdM
  cases h : cutL [10] s with
  | none => exact Nat.zero_le _
  | some p => obtain ⟨a, b⟩ := p; have := cutL_len h; show b.length ≤ _; omega
theorem numIn_le {s : Bs} {n : Nat} (h : numIn s = some n) : 7 ≤ n ∧ n ≤ (bdM s).length := by
  unfold numIn at h
  split at h
  · cases hA : atoiV (Lib.trimPrefix (hdM s) headL) with
    | none => rw [hA] at h; cases h
    | some v =>
      rw [hA] at h
      simp only at h
      split at h
      · have := Option.some.inj h
        omega
      · cases h
  · cases h
theorem prefix_app (a b : Bs) : Lib.hasPrefix (a ++ b) a = true := by
  unfold Lib.hasPrefix
  rw [List.isPrefixOf_iff_prefix]
  exact List.prefix_append a b
theorem trim_app (a b : Bs) : Lib.trimPrefix (a ++ b) a = b := by
  unfold Lib.trimPrefix
  rw [if_pos (prefix_app a b), List.drop_left]
theorem decF_eq (s : Bs) (hs : s.length ≤ 16777216) : decF s = decM s := by
  rcases decM_cases s with ⟨l, hg, he, hd⟩ | ⟨hno, hd⟩
  · rw [hd]
    have hc := enc_cut hg.2
    rw [he] at hc
    have h1 : hdM s = headL ++ Lib.decDigits (widthM l) := by unfold hdM; rw [hc]
    have h2 : bdM s = encGo (widthM l) l := by unfold bdM; rw [hc]
    have hw := enc_wide (widthM l) l hg.2
    have h7 := widthM_7 l
    have hb := bd_le s
    rw [h2] at hb
    have hn : numIn s = some (widthM l) := by
      unfold numIn
      rw [h1, h2, if_pos (prefix_app _ _), trim_app, atoiV_dig (by omega)]
      simp only
      rw [if_pos (by omega)]
      congr 1
    unfold decF
    rw [hn]
    simp only
    rw [h2, parts_of hg.1]
    simp only
    unfold endM
    rw [if_pos ⟨hg.2, (rightB_iff l).2 hg.1, he⟩]
  · rw [hd]
    unfold decF
    cases numIn s with
    | none => rfl
    | some n =>
      simp only
      cases partsM n ((bdM s).length + 1) (bdM s) with
      | none => rfl
      | some l =>
        simp only
        unfold endM
        rw [if_neg]
        rintro ⟨h1, h2, h3⟩
        exact hno l ⟨(rightB_iff l).1 h2, h1⟩ h3
end Go.Proofs.YtekihjffefokjaaDoor
