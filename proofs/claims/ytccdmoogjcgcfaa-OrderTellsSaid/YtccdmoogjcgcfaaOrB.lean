/-
  ORDER: what Merge answers, as one value; it turned round; a row over itself.
-/
import Derived.Test.YtccdmoogjcgcfaaOrJ
import Derived.Test.YtccdmoogjcgcfaaOrK
namespace Go.Proofs.Ytccdmoogjcgcfaa
open Go.RowKit

open Classical in
/-- what Merge answers: the names merged, or none -/
noncomputable def mergeV (lb ll lr l : List Bs) : Option (List Bs) := if onceAll lb ll lr l = true ∧ okAll lb ll lr l then mergeAll lb ll lr l else none
theorem mergeV_turn (lb ll lr l : List Bs) : mergeV lb ll lr l = mergeV lb lr ll l := by
  unfold mergeV
  rw [onceAll_turn lb ll lr l, mergeAll_turn lb ll lr l]
  have h := okAll_turn lb ll lr l
  by_cases hk : onceAll lb lr ll l = true ∧ okAll lb lr ll l
  · rw [if_pos hk, if_pos ⟨hk.1, h.2 hk.2⟩]
  · rw [if_neg hk, if_neg (fun h' => hk ⟨h'.1, h.1 h'.2⟩)]
theorem mergeV_some {lb ll lr l out : List Bs} (h : mergeV lb ll lr l = some out) : onceAll lb ll lr l = true ∧ okAll lb ll lr l ∧ mergeAll lb ll lr l = some out := by
  unfold mergeV at h
  by_cases hk : onceAll lb ll lr l = true ∧ okAll lb ll lr l
  · rw [if_pos hk] at h; exact ⟨hk.1, hk.2, h⟩
  · rw [if_neg hk] at h; cases h
theorem mergeV_of {lb ll lr l out : List Bs} (h1 : onceAll lb ll lr l = true) (h2 : okAll lb ll lr l) (h3 : mergeAll lb ll lr l = some out) : mergeV lb ll lr l = some out := by
  unfold mergeV
  rw [if_pos ⟨h1, h2⟩, h3]
theorem mergeV_base {lb l : List Bs} (hb : onceB lb = true) (hl : onceB l = true) : mergeV lb l lb l = some l := by
  have hn := ((onceB_iff l).1 hl).2
  refine mergeV_of (by unfold onceAll; rw [hb, hl]; rfl) (okAll_of fun i j hij hj => by rw [aheadM_base hn hij hj]) (mergeAll_own hn fun i j hij hj => by rw [aheadM_base hn hij hj])
/-- Merge's answer -/
theorem merge_gen (rb rl rr rn : SRow) (w : World) (h0 : rb.ok w) (h1 : rl.ok w) (h2 : rr.ok w) (h3 : rn.ok w) (z0 : Shorts rb.l) (z1 : Shorts rl.l) (z2 : Shorts rr.l) (z3 : Shorts rn.l) {V : Option (List Bs)} (hV : mergeV rb.l rl.l rr.l rn.l = V) :
    Calls Try.prog 11 #[rb.v, rl.v, rr.v, rn.v] w fun e w' => ∃ r : SRow, e = .returned (.tuple #[r.v, .bool V.isSome]) ∧ r.l = V.getD [] ∧ r.ok w' ∧ Below w.heap.size w w' := by
  cases V with
  | some out =>
    obtain ⟨ho, hk, hm⟩ := mergeV_some hV
    refine (merge_some h0 h1 h2 h3 z0 z1 z2 z3 ho hk hm).mono ?_
    rintro e w' ⟨r, hr, rfl, hok, hb⟩
    exact ⟨r, rfl, hr, hok, hb⟩
  | none =>
    refine (merge_none h0 h1 h2 h3 z0 z1 z2 z3 (fun h => ?_)).mono ?_
    · obtain ⟨ho, hk, out, hm⟩ := h
      rw [mergeV_of ho hk hm] at hV
      cases hV
    · rintro e w' ⟨rfl, hb⟩
      exact ⟨⟨none, 0, []⟩, rfl, rfl, nil_ok _, hb⟩
theorem AheadM_turn (lb ll lr : List Bs) (x y : Bs) : AheadM lb ll lr x y = AheadM lb lr ll x y := by
  unfold AheadM
  rw [aheadM_turn]
  cases onceB lb <;> cases onceB ll <;> cases onceB lr <;> simp
theorem AheadM_anti (lb ll lr : List Bs) (x y : Bs) : AheadM lb ll lr y x = (-(AheadM lb ll lr x y).1, (AheadM lb ll lr x y).2) := by
  unfold AheadM
  by_cases h : (onceB lb && (onceB ll && onceB lr)) = true ∧ x ≠ y
  · rw [if_pos h, if_pos ⟨h.1, h.2.symm⟩, aheadM_anti]
  · rw [if_neg h, if_neg (fun h' => h ⟨h'.1, h'.2.symm⟩)]
    rfl
theorem AheadM_cases (lb ll lr : List Bs) (x y : Bs) : (AheadM lb ll lr x y).1 = -1 ∨ (AheadM lb ll lr x y).1 = 0 ∨ (AheadM lb ll lr x y).1 = 1 := by
  unfold AheadM
  split
  · exact aheadM_cases lb ll lr x y
  · exact .inr (.inl rfl)
theorem same_is (ra rb : SRow) (w : World) (h : ra.ok w) (h' : rb.ok w) (e : ra.l = rb.l) : Calls Try.prog 13 #[ra.v, rb.v] w fun e w' => e = .returned (.bool true) ∧ Below w.heap.size w w' := by
  have h2 := rsame_any ra.o rb.o ra.cap rb.cap ra.l rb.l w h.le h.cp h.rd h'.le h'.cp h'.rd
  rw [decide_eq_true e] at h2
  exact h2
theorem once_row' (rn : SRow) (w : World) (h : rn.ok w) (z : Shorts rn.l) {b : Bool} (hb : onceB rn.l = b) : Calls Try.prog 14 #[rn.v] w fun e w' => e = .returned (.bool b) ∧ Below w.heap.size w w' := by
  subst hb
  exact once_any rn.o rn.cap rn.l w h.le h.cp h.rd z
theorem short_row' (rn : SRow) (w : World) (h : rn.ok w) (z : Shorts rn.l) : Calls Try.prog 8 #[rn.v] w (ShortPost rn.l w) := short_any rn.o rn.cap rn.l w h.le h.cp h.rd z
end Go.Proofs.Ytccdmoogjcgcfaa
