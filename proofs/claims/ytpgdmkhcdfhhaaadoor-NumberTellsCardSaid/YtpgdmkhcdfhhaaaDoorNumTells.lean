/-
  WALK: the law NumberTells.
-/
import Derived.Test.YtpgdmkhcdfhhaaaDoorNumRefI
import Derived.Test.YtpgdmkhcdfhhaaaDoorNumOrders
namespace Go.Proofs.YtpgdmkhcdfhhaaaDoor
open Go.RowKit

theorem One.below {w : World} {na : Bool} {DA : Bs} {EA : Int} {W : World} (h : One w na DA EA W) : Below w.heap.size w W := h.1

set_option maxHeartbeats 2000000 in
set_option maxRecDepth 1000000 in
theorem numberTells (neg : Bool) (D : Bs) (E i : Int) (w : World) (hD : D.length ≤ 9223372036854775807)
    (hE : -9223372036854775808 ≤ E ∧ E ≤ 9223372036854775807) (hi : -9223372036854775808 ≤ i ∧ i ≤ 9223372036854775807) (hIE : Itoas E w) (hIi : Itoas i w) (hEr : ErrAt w) :
    Calls Tryd.prog 3 #[.agg #[.bool neg, .string (st D), .int .i64 E], .int .i64 i] w fun e w' => e = .returned (.bool true) ∧ Below w.heap.size w w' := by
  have HIE := hq hIE
  have HIi := hq hIi
  have HER := hq hEr
  clear hIE hIi hEr
  go_enter Tryd.func3, Tryd.ntmps3
  have hT := one_made w neg D E
  go_wp2_with fail
  refine (small_any _).mono ?_
  rintro e w1 ⟨rfl, hb1⟩
  replace hT := hT.grow hb1
  clear hb1
  obtain ⟨c0, c1, c2⟩ := hT.cells
  go_wp2_with fail
  refine (few_any neg D E _ hD).mono ?_
  rintro e w2 ⟨rfl, hb1⟩
  replace hT := hT.grow hb1
  clear hb1 c0 c1 c2
  by_cases h1 : D.length ≤ 2048
  case neg =>
    rw [decide_eq_false h1]
    go_wp2_with fail
    go_ret
    exact ⟨rfl, hT.1⟩
  rw [decide_eq_true h1]
  have hint := fun W (h : Below w.heap.size w W) => int_any neg D E W (by omega) hE (HER.o.grow h)
  have hrint := fun W => rint_any neg D E W (by omega) hE
  have hra := fun W => right_any neg D E W (by omega) hE
  have hrb := fun W => rright_any neg D E W (by omega) hE
  have hta := fun W (h : Below w.heap.size w W) => text_any neg D E W (by omega) hE (fun _ => HIE.o.grow h) (decDigits_short E hE.1 hE.2).2
  have htb := fun W => rtext_any neg D E W (by omega) hE
  have hoa := fun W (h : Below w.heap.size w W) => of_int i hi.1 hi.2 W (HIi.o.grow h)
  have hob := fun W => rof_any i W hi.1 hi.2
  generalize intM ⟨neg, D, E⟩ = r at *
  generalize Dec.right ⟨neg, D, E⟩ = B at *
  generalize st (textM ⟨neg, D, E⟩) = X at *
  generalize ofM i = d at *
  obtain ⟨n1, D1, E1⟩ := d
  obtain ⟨rv, ro⟩ := r
  have HOA : Hq (∀ W, Below w.heap.size w W → Calls Tryd.prog 22 #[.int .i64 i] W fun e w' => e = .returned (.agg #[.bool n1, .string (st D1), .int .i64 E1]) ∧ Below W.heap.size W w') := hq hoa
  have HOB : Hq (∀ W, Calls Tryd.prog 23 #[.int .i64 i] W fun e w' => e = .returned (.agg #[.bool n1, .string (st D1), .int .i64 E1]) ∧ Below W.heap.size W w') := hq hob
  have HINT := hq hint
  have HRINT := hq hrint
  have HRA := hq hra
  have HRB := hq hrb
  have HTA := hq hta
  have HTB := hq htb
  clear hint hrint hra hrb hta htb hoa hob
  obtain ⟨c0, c1, c2⟩ := hT.cells
  go_wp2_with fail
  refine (HINT.o _ hT.1).mono ?_
  rintro e w3 ⟨rfl, hb1⟩
  replace hT := hT.grow hb1
  clear hb1 c0 c1 c2
  obtain ⟨c0, c1, c2⟩ := hT.cells
  go_wp2_with fail
  refine (HRINT.o _).mono ?_
  rintro e w4 ⟨rfl, hb1⟩
  replace hT := hT.grow hb1
  clear hb1 c0 c1 c2
  obtain ⟨c0, c1, c2⟩ := hT.cells
  have heq := eq_dec n1 D1 E1 n1 D1 E1
  rw [decide_eq_true rfl] at heq
  go_upto_region 7 with fail
  go_region_held3 (fun W => One w neg D E W ∧ W.cell? ⟨w.heap.size, 0, none⟩ = some (.bool neg) ∧ W.cell? ⟨w.heap.size, 1, none⟩ = some (.string (st D)) ∧ W.cell? ⟨w.heap.size, 2, none⟩ = some (.int .i64 E)) (first | exact ⟨hT.drew, hT.drew.cells⟩ | exact ⟨hT2, hT2.cells⟩) (first | (go_at_call 18; refine (HRA.o _).mono ?_; rintro e v ⟨rfl, hb2⟩; have hT2 : One w neg D E v := One.grow (And.left (by assumption)) hb2) | (go_at_call 19; refine (HRB.o _).mono ?_; rintro e v ⟨rfl, hb2⟩; have hT2 : One w neg D E v := One.grow (And.left (by assumption)) hb2) | (go_at_call 20; refine (HTA.o _ (One.below (na := neg) (DA := D) (EA := E) (And.left (by assumption)))).mono ?_; rintro e v ⟨rfl, hb2⟩; have hT2 : One w neg D E v := One.grow (And.left (by assumption)) hb2) | (go_at_call 21; refine (HTB.o _).mono ?_; rintro e v ⟨rfl, hb2⟩; have hT2 : One w neg D E v := One.grow (And.left (by assumption)) hb2) | (go_at_call 22; refine (HOA.o _ (One.below (na := neg) (DA := D) (EA := E) (And.left (by assumption)))).mono ?_; rintro e v ⟨rfl, hb2⟩; have hT2 : One w neg D E v := One.grow (And.left (by assumption)) hb2) | (go_at_call 23; refine (HOB.o _).mono ?_; rintro e v ⟨rfl, hb2⟩; have hT2 : One w neg D E v := One.grow (And.left (by assumption)) hb2))
  go_wp2_with fail
  go_ret
  exact ⟨rfl, hT2.1⟩
end Go.Proofs.YtpgdmkhcdfhhaaaDoor
