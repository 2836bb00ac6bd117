/-
  THE TREES OF THE SMALL CASE of the laws of layer 8, and their texts.
-/
import Derived.Test.YtnlkokgekjlmmaaGreatDoorPrF
import Derived.Test.YtnlkokgekjlmmaaGreatDoorVuM
namespace Go.Proofs.YtnlkokgekjlmmaaGreatDoor
open Go.RowKit

def xPL : Vl := .mk 6 [] [[98], [97]] [.mk 5 [] [] [.mk 3 [49] [] [], .mk 1 [] [] []], .mk 4 [120] [] []]
def rPL : Vl := .mk 5 [] [] [.mk 3 [49] [] [], .mk 5 [] [] []]
theorem txP_compact : compactM xPL = ([123, 34, 98, 34, 58, 91, 49, 44, 110, 117, 108, 108, 93, 44, 34, 97, 34, 58, 34, 120, 34, 125], 0) := by kernel_rfl
theorem txP_canon : compactM (sortM xPL) = ([123, 34, 97, 34, 58, 34, 120, 34, 44, 34, 98, 34, 58, 91, 49, 44, 110, 117, 108, 108, 93, 125], 0) := by kernel_rfl
theorem txP_pretty : prettyM rPL 2 0 = ([91, 10, 32, 32, 49, 44, 10, 32, 32, 91, 93, 10, 93], 0) := by kernel_rfl
theorem txP_hole : compactM (.mk 7 [48] [] []) = ([], 1) := by kernel_rfl

def rowP (g : Nat) : Vt := .mk 5 [] ⟨none, 0, []⟩ (some ⟨g, 0, none⟩) 2 [leafT 3 [49], leafT 1 []]
def xPT (gk gj gi : Nat) : Vt := .mk 6 [] ⟨some ⟨gk, 0, none⟩, 2, [[98], [97]]⟩ (some ⟨gj, 0, none⟩) 2 [rowP gi, leafT 4 [120]]
def noneP : Vt := .mk 5 [] ⟨none, 0, []⟩ none 0 []
def rPT (g : Nat) : Vt := .mk 5 [] ⟨none, 0, []⟩ (some ⟨g, 0, none⟩) 2 [leafT 3 [49], noneP]
theorem rowP_m (g : Nat) : (rowP g).m = .mk 5 [] [] [.mk 3 [49] [] [], .mk 1 [] [] []] := by unfold rowP; rw [Vt.m_mk]; simp only [List.map_cons, List.map_nil, leafT_m]
theorem xPT_m (gk gj gi : Nat) : (xPT gk gj gi).m = xPL := by unfold xPT; rw [Vt.m_mk]; simp only [List.map_cons, List.map_nil, leafT_m, rowP_m]; rfl
theorem noneP_m : noneP.m = .mk 5 [] [] [] := by unfold noneP; rw [Vt.m_mk]; rfl
theorem rPT_m (g : Nat) : (rPT g).m = rPL := by unfold rPT; rw [Vt.m_mk]; simp only [List.map_cons, List.map_nil, leafT_m, noneP_m]; rfl
theorem lim_smallP {v : Vl} (h : v.allB (fun x => decide (x.t.length ≤ 100) && x.ks.all (fun k => decide (k.length ≤ 100))) = true) : v.All Lim ∧ v.All Sht := by
  constructor
  all_goals
    revert h
    refine Vl.ind (P := fun v => v.allB _ = true → v.All _) (fun k t ks is ih h => ?_) v
    simp only [Vl.allB, Bool.and_eq_true, Vl.allsB_iff, decide_eq_true_eq, List.all_eq_true] at h
    exact .mk _ _ _ _ ⟨Nat.le_trans h.1.1 (by decide), fun k hk => Nat.le_trans (h.1.2 k hk) (by decide)⟩ (fun x hx => ih x hx (h.2 x hx))
theorem pair_ok {a b : Vt} {W : World} (ha : a.Ok W) (hb : b.Ok W) : ∀ x ∈ [a, b], x.Ok W := fun x hx => by
  rcases List.mem_cons.1 hx with rfl | hx
  · exact ha
  · rw [List.mem_singleton.1 hx]; exact hb
theorem noneP_ok (W : World) : noneP.Ok W := .mk _ _ _ _ _ _ (by decide) (Nat.zero_le _) ⟨Nat.le_refl _, Nat.zero_le _, fun i hi => absurd hi (Nat.not_lt_zero i)⟩ (fun x hx => by cases hx) (Nat.le_refl _) (Nat.zero_le _) (fun i hi => absurd hi (Nat.not_lt_zero i)) (fun i hi => absurd hi (Nat.not_lt_zero i))
theorem rowP_ok {W : World} {g : Nat} {T : TypeId} (h : Whole W g T #[.int .i64 3, .string (st [49]), .slice none 0 0, .slice none 0 0, .int .i64 1, .string ⟨#[]⟩, .slice none 0 0, .slice none 0 0]) : (rowP g).Ok W :=
  arr_ok (l := [leafT 3 [49], leafT 1 []]) h rfl (by exact (by decide : (2 : Nat) ≤ 1000)) (pair_ok (leaf_ok 3 [49] W (by decide) (by show 1 ≤ maxLen; decide)) (leaf_ok 1 [] W (by decide) (by show 0 ≤ maxLen; decide)))
theorem xPT_pri {W : World} {gk gj gi : Nat} {TK T T' : TypeId} (hk : Whole W gk TK #[.string ⟨#[98]⟩, .string ⟨#[97]⟩]) (hj : Whole W gj T #[.int .i64 5, .string ⟨#[]⟩, .slice none 0 0, .slice (some ⟨gi, 0, none⟩) 2 2, .int .i64 4, .string (st [120]), .slice none 0 0, .slice none 0 0])
    (hi : Whole W gi T' #[.int .i64 3, .string (st [49]), .slice none 0 0, .slice none 0 0, .int .i64 1, .string ⟨#[]⟩, .slice none 0 0, .slice none 0 0]) : Pri (xPT gk gj gi) W :=
  ⟨⟨map_ok (kl := [[98], [97]]) (l := [rowP gi, leafT 4 [120]]) hk rfl hj rfl (by decide) (by decide) (by exact (by decide : (2 : Nat) ≤ 1000)) (pair_ok (rowP_ok hi) (leaf_ok 4 [120] W (by decide) (by show 1 ≤ maxLen; decide))), by rw [xPT_m]; exact (lim_smallP (by kernel_rfl)).1, by rw [xPT_m, show xPL.size = 5 by kernel_rfl]; decide⟩, by rw [xPT_m]; exact (lim_smallP (by kernel_rfl)).2⟩
theorem rPT_pri {W : World} {g : Nat} {T : TypeId} (h : Whole W g T #[.int .i64 3, .string (st [49]), .slice none 0 0, .slice none 0 0, .int .i64 5, .string ⟨#[]⟩, .slice none 0 0, .slice none 0 0]) : Pri (rPT g) W :=
  ⟨⟨arr_ok (l := [leafT 3 [49], noneP]) h rfl (by exact (by decide : (2 : Nat) ≤ 1000)) (pair_ok (leaf_ok 3 [49] W (by decide) (by show 1 ≤ maxLen; decide)) (noneP_ok W)), by rw [rPT_m]; exact (lim_smallP (by kernel_rfl)).1, by rw [rPT_m, show rPL.size = 3 by kernel_rfl]; decide⟩, by rw [rPT_m]; exact (lim_smallP (by kernel_rfl)).2⟩
theorem holeP_pri (W : World) : Pri (leafT 7 [48]) W :=
  ⟨⟨leaf_ok 7 [48] W (by decide) (by show 1 ≤ maxLen; decide), by rw [leafT_m]; exact (lim_smallP (by kernel_rfl)).1, by rw [leafT_m]; exact (by decide : (1 + 0 : Nat) ≤ 1000000)⟩, by rw [leafT_m]; exact (lim_smallP (by kernel_rfl)).2⟩

end Go.Proofs.YtnlkokgekjlmmaaGreatDoor
