/-
  WALKS: small().
-/
import Derived.Test.YtccdmoogjcgcfaaOrF
namespace Go.Proofs.Ytccdmoogjcgcfaa
open Go.RowKit

theorem shorts_lit {l : List Bs} (h : (l.all fun x => decide (x.length ≤ 1000)) = true) : Shorts l := fun x hx => by
  have := of_decide_eq_true (List.all_eq_true.1 h x hx)
  unfold maxLen
  omega
def csABC : Array Value := #[.string ⟨#[97]⟩, .string ⟨#[98]⟩, .string ⟨#[99]⟩]
def csBAC : Array Value := #[.string ⟨#[98]⟩, .string ⟨#[97]⟩, .string ⟨#[99]⟩]
def csABCD : Array Value := #[.string ⟨#[97]⟩, .string ⟨#[98]⟩, .string ⟨#[99]⟩, .string ⟨#[100]⟩]
theorem four_lits (w : World) (A B C D : Array Value) (T : TypeId) : ∀ W, W = (((w.alloc (.cells A T)).alloc (.cells B T)).alloc (.cells C T)).alloc (.cells D T) →
    Whole W w.heap.size T A ∧ Whole W (w.heap.size + 1) T B ∧ Whole W (w.heap.size + 1 + 1) T C ∧ Whole W (w.heap.size + 1 + 1 + 1) T D ∧ Below w.heap.size w W := fun W hW => by
  have h1 := (((Whole.made w T A).alloc (.cells B T)).alloc (.cells C T)).alloc (.cells D T)
  have h2 := ((Whole.made (w.alloc (.cells A T)) T B).alloc (.cells C T)).alloc (.cells D T)
  have h3 := (Whole.made ((w.alloc (.cells A T)).alloc (.cells B T)) T C).alloc (.cells D T)
  have h4 := Whole.made (((w.alloc (.cells A T)).alloc (.cells B T)).alloc (.cells C T)) T D
  simp only [World.size_alloc] at h1 h2 h3 h4
  subst hW
  exact ⟨h1, h2, h3, h4, below_trans (below_trans (below_trans (below_alloc w _) (below_alloc _ _)) (below_alloc _ _)) (below_alloc _ _)⟩
theorem small_m1 {W : World} {g0 g1 g2 g3 : Nat} (h0 : Whole W g0 9 csABC) (h1 : Whole W g1 9 csBAC) (h2 : Whole W g2 9 csABCD) (h3 : Whole W g3 9 csABCD) :
    Calls Try.prog 11 #[.slice (some ⟨g0, 0, none⟩) 3 3, .slice (some ⟨g1, 0, none⟩) 3 3, .slice (some ⟨g2, 0, none⟩) 4 4, .slice (some ⟨g3, 0, none⟩) 4 4] W fun e w' => ∃ r : SRow, r.l = [b1, a1, c1, d1] ∧ e = .returned (.tuple #[r.v, .bool true]) ∧ r.ok w' ∧ Below W.heap.size W w' :=
  merge_some (rb := ⟨some ⟨g0, 0, none⟩, 3, [a1, b1, c1]⟩) (rl := ⟨some ⟨g1, 0, none⟩, 3, [b1, a1, c1]⟩) (rr := ⟨some ⟨g2, 0, none⟩, 4, [a1, b1, c1, d1]⟩) (rn := ⟨some ⟨g3, 0, none⟩, 4, [a1, b1, c1, d1]⟩)
    (lit_ok h0 rfl (by decide)) (lit_ok h1 rfl (by decide)) (lit_ok h2 rfl (by decide)) (lit_ok h3 rfl (by decide))
    (shorts_lit (by kernel_rfl)) (shorts_lit (by kernel_rfl)) (shorts_lit (by kernel_rfl)) (shorts_lit (by kernel_rfl)) small_1.1 small_1.2.1 small_1.2.2
theorem nil_ok (w : World) : (⟨none, 0, []⟩ : SRow).ok w := ⟨Nat.le_refl _, Nat.zero_le _, StrsIn.nil _ _⟩
theorem small_m2 {W : World} {g1 g2 g3 : Nat} (h1 : Whole W g1 9 #[.string ⟨#[120]⟩]) (h2 : Whole W g2 9 #[.string ⟨#[121]⟩]) (h3 : Whole W g3 9 #[.string ⟨#[121]⟩, .string ⟨#[120]⟩]) :
    Calls Try.prog 11 #[.slice none 0 0, .slice (some ⟨g1, 0, none⟩) 1 1, .slice (some ⟨g2, 0, none⟩) 1 1, .slice (some ⟨g3, 0, none⟩) 2 2] W fun e w' => ∃ r : SRow, r.l = [x1, y1] ∧ e = .returned (.tuple #[r.v, .bool true]) ∧ r.ok w' ∧ Below W.heap.size W w' :=
  merge_some (rb := ⟨none, 0, []⟩) (rl := ⟨some ⟨g1, 0, none⟩, 1, [x1]⟩) (rr := ⟨some ⟨g2, 0, none⟩, 1, [y1]⟩) (rn := ⟨some ⟨g3, 0, none⟩, 2, [y1, x1]⟩)
    (nil_ok W) (lit_ok h1 rfl (by decide)) (lit_ok h2 rfl (by decide)) (lit_ok h3 rfl (by decide))
    (shorts_lit (by kernel_rfl)) (shorts_lit (by kernel_rfl)) (shorts_lit (by kernel_rfl)) (shorts_lit (by kernel_rfl)) small_2.1 small_2.2.1 small_2.2.2
theorem small_m3 {W : World} {g1 g2 g3 : Nat} (h1 : Whole W g1 9 #[.string ⟨#[120]⟩, .string ⟨#[121]⟩]) (h2 : Whole W g2 9 #[.string ⟨#[121]⟩, .string ⟨#[120]⟩]) (h3 : Whole W g3 9 #[.string ⟨#[120]⟩, .string ⟨#[121]⟩]) :
    Calls Try.prog 11 #[.slice none 0 0, .slice (some ⟨g1, 0, none⟩) 2 2, .slice (some ⟨g2, 0, none⟩) 2 2, .slice (some ⟨g3, 0, none⟩) 2 2] W fun e w' => e = .returned (.tuple #[.slice none 0 0, .bool false]) ∧ Below W.heap.size W w' :=
  merge_none (rb := ⟨none, 0, []⟩) (rl := ⟨some ⟨g1, 0, none⟩, 2, [x1, y1]⟩) (rr := ⟨some ⟨g2, 0, none⟩, 2, [y1, x1]⟩) (rn := ⟨some ⟨g3, 0, none⟩, 2, [x1, y1]⟩)
    (nil_ok W) (lit_ok h1 rfl (by decide)) (lit_ok h2 rfl (by decide)) (lit_ok h3 rfl (by decide))
    (shorts_lit (by kernel_rfl)) (shorts_lit (by kernel_rfl)) (shorts_lit (by kernel_rfl)) (shorts_lit (by kernel_rfl)) small_3
theorem small_m4 {W : World} {g0 g2 : Nat} (h0 : Whole W g0 9 csABC) (h2 : Whole W g2 9 #[.string ⟨#[98]⟩, .string ⟨#[97]⟩]) :
    Calls Try.prog 9 #[.slice (some ⟨g0, 0, none⟩) 3 3, .slice (some ⟨g0, 0, none⟩) 3 3, .slice (some ⟨g2, 0, none⟩) 2 2, .string ⟨#[97]⟩, .string ⟨#[98]⟩] W fun e w' => e = .returned (.tuple #[.int .i64 1, .bool true]) ∧ Below W.heap.size W w' := by
  have h := ahead_any (⟨some ⟨g0, 0, none⟩, 3, [a1, b1, c1]⟩) (⟨some ⟨g0, 0, none⟩, 3, [a1, b1, c1]⟩) (⟨some ⟨g2, 0, none⟩, 2, [b1, a1]⟩) a1 b1 W
    (lit_ok h0 rfl (by decide)) (lit_ok h0 rfl (by decide)) (lit_ok h2 rfl (by decide)) (shorts_lit (by kernel_rfl)) (shorts_lit (by kernel_rfl)) (shorts_lit (by kernel_rfl)) (by decide) (by decide)
  refine Calls.mono h ?_
  rintro e w' ⟨rfl, hb⟩
  simp only [small_4]
  exact ⟨rfl, hb⟩
theorem three_lits (w : World) (A B C : Array Value) (T : TypeId) : ∀ W, W = ((w.alloc (.cells A T)).alloc (.cells B T)).alloc (.cells C T) →
    Whole W w.heap.size T A ∧ Whole W (w.heap.size + 1) T B ∧ Whole W (w.heap.size + 1 + 1) T C ∧ Below w.heap.size w W := fun W hW => by
  have h1 := ((Whole.made w T A).alloc (.cells B T)).alloc (.cells C T)
  have h2 := (Whole.made (w.alloc (.cells A T)) T B).alloc (.cells C T)
  have h3 := Whole.made ((w.alloc (.cells A T)).alloc (.cells B T)) T C
  simp only [World.size_alloc] at h1 h2 h3
  subst hW
  exact ⟨h1, h2, h3, below_trans (below_trans (below_alloc w _) (below_alloc _ _)) (below_alloc _ _)⟩
theorem small_s1 {W : World} {g : Nat} {o : Option Addr} {cap : Nat} (h : (⟨o, cap, [b1, a1, c1, d1]⟩ : SRow).ok W) (h2 : Whole W g 9 #[.string ⟨#[98]⟩, .string ⟨#[97]⟩, .string ⟨#[99]⟩, .string ⟨#[100]⟩]) :
    Calls Try.prog 13 #[.slice o 4 cap, .slice (some ⟨g, 0, none⟩) 4 4] W fun e w' => e = .returned (.bool true) ∧ Below W.heap.size W w' := by
  have hk := lit_ok (l := [b1, a1, c1, d1]) h2 rfl (by decide)
  have h3 := rsame_any o (some ⟨g, 0, none⟩) cap 4 [b1, a1, c1, d1] [b1, a1, c1, d1] W h.le h.cp h.rd hk.le hk.cp hk.rd
  rw [decide_eq_true (rfl : [b1, a1, c1, d1] = [b1, a1, c1, d1])] at h3
  exact h3
theorem small_s2 {W : World} {g : Nat} {o : Option Addr} {cap : Nat} (h : (⟨o, cap, [x1, y1]⟩ : SRow).ok W) (h2 : Whole W g 9 #[.string ⟨#[120]⟩, .string ⟨#[121]⟩]) :
    Calls Try.prog 13 #[.slice o 2 cap, .slice (some ⟨g, 0, none⟩) 2 2] W fun e w' => e = .returned (.bool true) ∧ Below W.heap.size W w' := by
  have hk := lit_ok (l := [x1, y1]) h2 rfl (by decide)
  have h3 := rsame_any o (some ⟨g, 0, none⟩) cap 2 [x1, y1] [x1, y1] W h.le h.cp h.rd hk.le hk.cp hk.rd
  rw [decide_eq_true (rfl : [x1, y1] = [x1, y1])] at h3
  exact h3
theorem small_o {W : World} {g : Nat} (h : Whole W g 9 csABC) :
    Calls Try.prog 14 #[.slice (some ⟨g, 0, none⟩) 3 3] W fun e w' => e = .returned (.bool true) ∧ Below W.heap.size W w' := by
  have hk := lit_ok (l := [a1, b1, c1]) h rfl (by decide)
  have h3 := once_any (some ⟨g, 0, none⟩) 3 [a1, b1, c1] W hk.le hk.cp hk.rd (shorts_lit (by kernel_rfl))
  rw [show onceB [a1, b1, c1] = true by kernel_rfl] at h3
  exact h3
set_option maxHeartbeats 4000000 in
set_option maxRecDepth 1000000 in
theorem small_any (w : World) : Calls Try.prog 7 #[] w fun e w' => e = .returned (.bool true) ∧ Below w.heap.size w w' := by
  go_enter Try.func7, Try.ntmps7
  go_wp2_with fail
  obtain ⟨h0, h1, h2, h3, hb1⟩ := four_lits w csABC csBAC csABCD csABCD 9 _ rfl
  refine (small_m1 h0 h1 h2 h3).mono ?_
  rintro e w1 ⟨⟨ro, rc, rl⟩, hr1, rfl, hk1, hb2⟩
  simp only at hr1
  subst hr1
  have HK1 := hq hk1
  have HW1 := hq (h0.grow hb2)
  have HB1 := hq (below_trans hb1 hb2)
  clear h0 h1 h2 h3 hb1 hb2 hk1
  unfold SRow.v
  simp only [List.length_cons, List.length_nil, Nat.zero_add, Nat.reduceAdd]
  go_wp2_with fail
  obtain ⟨h1, h2, h3, hb1⟩ := three_lits w1 #[.string ⟨#[120]⟩] #[.string ⟨#[121]⟩] #[.string ⟨#[121]⟩, .string ⟨#[120]⟩] 9 _ rfl
  refine (small_m2 h1 h2 h3).mono ?_
  rintro e w2 ⟨⟨ro2, rc2, rl2⟩, hr1, rfl, hk2, hb2⟩
  simp only at hr1
  subst hr1
  have hb3 := below_trans hb1 hb2
  have HK1b := hq (HK1.o.grow hb3)
  have HW2 := hq (HW1.o.grow hb3)
  have HB2 := hq (below_trans HB1.o hb3)
  have HK2 := hq hk2
  clear h1 h2 h3 hb1 hb2 hb3 hk2 HK1 HW1 HB1
  unfold SRow.v
  simp only [List.length_cons, List.length_nil, Nat.zero_add, Nat.reduceAdd]
  go_wp2_with fail
  obtain ⟨h1, h2, h3, hb1⟩ := three_lits w2 #[.string ⟨#[120]⟩, .string ⟨#[121]⟩] #[.string ⟨#[121]⟩, .string ⟨#[120]⟩] #[.string ⟨#[120]⟩, .string ⟨#[121]⟩] 9 _ rfl
  refine (small_m3 h1 h2 h3).mono ?_
  rintro e w3 ⟨rfl, hb2⟩
  have hb3 := below_trans hb1 hb2
  have HK1c := hq (HK1b.o.grow hb3)
  have HK2c := hq (HK2.o.grow hb3)
  have HW3 := hq (HW2.o.grow hb3)
  have HB3 := hq (below_trans HB2.o hb3)
  clear h1 h2 h3 hb1 hb2 hb3 HK1b HK2 HW2 HB2
  go_wp2_with fail
  have hb1 := below_alloc w3 (.cells #[.string ⟨#[98]⟩, .string ⟨#[97]⟩] 9)
  refine (small_m4 (HW3.o.grow hb1) (Whole.made _ _ _)).mono ?_
  rintro e w4 ⟨rfl, hb2⟩
  have hb3 := below_trans hb1 hb2
  have HK1d := hq (HK1c.o.grow hb3)
  have HK2d := hq (HK2c.o.grow hb3)
  have HW4 := hq (HW3.o.grow hb3)
  have HB4 := hq (below_trans HB3.o hb3)
  clear hb1 hb2 hb3 HK1c HK2c HW3 HB3
  go_wp2_with fail
  have hb1 := below_alloc w4 (.cells #[.string ⟨#[98]⟩, .string ⟨#[97]⟩, .string ⟨#[99]⟩, .string ⟨#[100]⟩] 9)
  refine (small_s1 (HK1d.o.grow hb1) (Whole.made _ _ _)).mono ?_
  rintro e w5 ⟨rfl, hb2⟩
  have hb3 := below_trans hb1 hb2
  have HK2e := hq (HK2d.o.grow hb3)
  have HW5 := hq (HW4.o.grow hb3)
  have HB5 := hq (below_trans HB4.o hb3)
  clear hb1 hb2 hb3 HK1d HK2d HW4 HB4
  go_wp2_with fail
  have hb1 := below_alloc w5 (.cells #[.string ⟨#[120]⟩, .string ⟨#[121]⟩] 9)
  refine (small_s2 (HK2e.o.grow hb1) (Whole.made _ _ _)).mono ?_
  rintro e w6 ⟨rfl, hb2⟩
  have hb3 := below_trans hb1 hb2
  have HW6 := hq (HW5.o.grow hb3)
  have HB6 := hq (below_trans HB5.o hb3)
  clear hb1 hb2 hb3 HK2e HW5 HB5
  go_wp2_with fail
  refine (small_o HW6.o).mono ?_
  rintro e w7 ⟨rfl, hb2⟩
  have HB7 := hq (below_trans HB6.o hb2)
  clear hb2 HW6 HB6
  go_wp2_with fail
  go_ret
  exact ⟨rfl, HB7.o⟩
end Go.Proofs.Ytccdmoogjcgcfaa
