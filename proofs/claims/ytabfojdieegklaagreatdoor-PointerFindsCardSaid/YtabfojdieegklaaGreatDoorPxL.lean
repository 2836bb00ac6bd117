/-
  WALK: the law PointerWalks.
-/
import Derived.Test.YtabfojdieegklaaGreatDoorPx2
import Derived.Test.YtabfojdieegklaaGreatDoorVuL
import Derived.Test.YtabfojdieegklaaGreatDoorVsC
import Derived.Deep.CutRange
namespace Go.Proofs.YtabfojdieegklaaGreatDoor
open Go.RowKit

/-! ### a path in two parts -/
theorem pget_all {P : Vl → Prop} : ∀ (p : List Bs) (v z : Vl), pgetM p v = some z → v.All P → z.All P
  | [], v, z, h, ha => by rw [← Option.some.inj h]; exact ha
  | s :: p, v, z, h, ha => by
    rw [pgetM] at h
    split at h
    · split at h
      · rename_i y hy
        obtain ⟨k, t, ks, is⟩ := v
        exact pget_all p y z h (ha.items y (List.mem_of_getElem? hy))
      · cases h
    · cases h
theorem pget_size : ∀ (p : List Bs) (v z : Vl), pgetM p v = some z → z.size ≤ v.size
  | [], v, z, h => by rw [← Option.some.inj h]; exact Nat.le_refl _
  | s :: p, v, z, h => by
    rw [pgetM] at h
    split at h
    · split at h
      · rename_i y hy
        obtain ⟨k, t, ks, is⟩ := v
        have h1 := pget_size p y z h
        have h2 := size_item (List.mem_of_getElem? hy : y ∈ is)
        simp only [Vl.size]; omega
      · cases h
    · cases h
theorem pget_open : ∀ (p : List Bs) (v z : Vl), pgetM p v = some z → openM v = true → openM z = true
  | [], v, z, h, ho => by rw [← Option.some.inj h]; exact ho
  | s :: p, v, z, h, ho => by
    rw [pgetM] at h
    split at h
    · split at h
      · rename_i y hy
        obtain ⟨k, t, ks, is⟩ := v
        have hm : y ∈ is := List.mem_of_getElem? hy
        refine pget_open p y z h ?_
        obtain ⟨h1, h2, h3⟩ := open_good ho
        have h4 := size_item hm
        have h5 := depth_item (k := k) (t := t) (ks := ks) hm
        unfold openM
        simp only [Bool.and_eq_true, decide_eq_true_eq]
        simp only [Vl.size] at h2
        exact ⟨by omega, by omega, h1.items y hm⟩
      · cases h
    · cases h
theorem pfind_some {v z : Vl} {p : List Bs} (h : pfindM v p = some z) : pgoodB p = true ∧ openM v = true ∧ pgetM p v = some z := by
  unfold pfindM at h
  split at h
  · rename_i h1; exact ⟨h1.1, h1.2, h⟩
  · cases h
theorem pfind_all {P : Vl → Prop} {v : Vl} {p : List Bs} (hv : v.All P) (hz : zeroL.All P) : ((pfindM v p).getD zeroL).All P := by
  cases h : pfindM v p with
  | none => exact hz
  | some z => exact pget_all p v z (pfind_some h).2.2 hv
theorem pfind_size {v : Vl} {p : List Bs} : ((pfindM v p).getD zeroL).size ≤ v.size := by
  cases h : pfindM v p with
  | none =>
    show 1 ≤ _
    cases v; simp only [Vl.size]; omega
  | some z => exact pget_size p v z (pfind_some h).2.2
theorem zeroL_lim : zeroL.All Lim := .mk _ _ _ _ ⟨Nat.zero_le _, fun x hx => by cases hx⟩ (fun x hx => by cases hx)
theorem zeroL_rng : zeroL.All Vl.Rng := .mk _ _ _ _ ⟨by decide, Nat.zero_le _, fun x hx => by cases hx⟩ (fun x hx => by cases hx)
/-- what Find answers of a tree that can be read, can be read -/
theorem find_fine {x y : Vt} {w w' : World} {p : List Bs} {B : Nat} (hx : Fine x w) (hy : y.Own 37 9 B (fun _ => True) w') (hm : y.m = (pfindM x.m p).getD zeroL) : Fine y w' :=
  ⟨hy.ok (by rw [hm]; exact pfind_all hx.ok.rng zeroL_rng), by rw [hm]; exact pfind_all hx.lim zeroL_lim, by rw [hm]; exact Nat.le_trans pfind_size hx.sz⟩
/-! ### a row appended to one of the call's own -/
end Go.Proofs.YtabfojdieegklaaGreatDoor
