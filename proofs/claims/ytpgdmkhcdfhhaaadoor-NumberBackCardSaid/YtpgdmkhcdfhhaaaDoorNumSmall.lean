/-
  WALK: the small cases of layer 2.
-/
import Derived.Test.YtpgdmkhcdfhhaaaDoorNumText
import Derived.Test.YtpgdmkhcdfhhaaaDoorNumParse
import Derived.Lib.ItoaLen
namespace Go.Proofs.YtpgdmkhcdfhhaaaDoor
open Go.RowKit

theorem sp1 : parseM [49, 50, 46, 53, 48, 101, 49] = (⟨false, [49, 50, 53], 0⟩, 0) := by kernel_rfl
theorem sp2 : parseM [45, 48, 46, 48] = (.zero, 0) := by kernel_rfl
theorem sp3 : parseM [48, 49] = (.zero, 2) := by kernel_rfl
theorem sp4 : parseM [49, 101, 57, 57, 57, 57, 57, 57, 57, 57, 57, 57] = (.zero, 4) := by kernel_rfl
theorem sp5 : parseM [49, 101, 50] = (⟨false, [49], 2⟩, 0) := by kernel_rfl
theorem st1 : textM ⟨false, [49, 50, 53], 0⟩ = [49, 50, 53] := by kernel_rfl
theorem st2 : textM .zero = [48] := by kernel_rfl
theorem st3 : textM ⟨false, [49], 2⟩ = [49, 101, 50] := by kernel_rfl
theorem so1 : splitM (Lib.itoa 99) = some ⟨false, [57, 57], [], false, []⟩ := by kernel_rfl
theorem so2 : numM false [57, 57] [] false [] = ⟨false, [57, 57], 0⟩ := by kernel_rfl
theorem sc1 : compareM ⟨false, [49], 2⟩ ⟨false, [57, 57], 0⟩ = 1 := by kernel_rfl

theorem st2' : textM ⟨false, [], 0⟩ = [48] := st2
theorem text_small (neg : Bool) (D : Bs) (E : Int) (w : World) (hD : D.length ≤ 1000) (h0 : 0 ≤ E) (hE : E < 100) :
    Calls Tryd.prog 20 #[.agg #[.bool neg, .string (st D), .int .i64 E]] w fun e w' => e = .returned (.string (st (textM ⟨neg, D, E⟩))) ∧ Below w.heap.size w w' :=
  text_any neg D E w (by omega) (by omega) (fun _ => by obtain ⟨k, rfl⟩ := Int.eq_ofNat_of_zero_le h0; exact itoas_small k (by omega) w) (Nat.le_trans (Lib.itoa_length_le _ (by omega) (by omega)) (by omega))
theorem of_99 (w : World) : Calls Tryd.prog 22 #[.int .i64 99] w fun e w' => e = .returned (.agg #[.bool false, .string (st [57, 57]), .int .i64 0]) ∧ Below w.heap.size w w' := by
  have h := of_any 99 _ w (itoas_small 99 (by omega) w) (Nat.le_trans (Lib.itoa_length_le _ (by omega) (by omega)) (by omega)) so1 (by decide)
  rw [so2] at h
  exact h
/-- three numbers in their blocks, in a world grown from w -/
def Trio (w : World) (g h k : Nat) (W : World) : Prop :=
  Below w.heap.size w W ∧ Whole W g 23 #[.bool false, .string (st [49, 50, 53]), .int .i64 0] ∧ Whole W h 23 #[.bool false, .string (st []), .int .i64 0] ∧ Whole W k 23 #[.bool false, .string (st [49]), .int .i64 2]
theorem Trio.grow {w : World} {g h k : Nat} {W W' : World} (t : Trio w g h k W) (hb : Below W.heap.size W W') : Trio w g h k W' := ⟨below_trans t.1 hb, t.2.1.grow hb, t.2.2.1.grow hb, t.2.2.2.grow hb⟩
theorem Trio.drew {w : World} {g h k : Nat} {W : World} (t : Trio w g h k W) : Trio w g h k W.drew := ⟨t.1.drew, t.2.1, t.2.2.1, t.2.2.2⟩
def TrioCells (g h k : Nat) (W : World) : Prop :=
  W.cell? ⟨g, 0, none⟩ = some (.bool false) ∧ W.cell? ⟨g, 1, none⟩ = some (.string (st [49, 50, 53])) ∧ W.cell? ⟨g, 2, none⟩ = some (.int .i64 0) ∧
  W.cell? ⟨h, 0, none⟩ = some (.bool false) ∧ W.cell? ⟨h, 1, none⟩ = some (.string (st [])) ∧ W.cell? ⟨h, 2, none⟩ = some (.int .i64 0) ∧
  W.cell? ⟨k, 0, none⟩ = some (.bool false) ∧ W.cell? ⟨k, 1, none⟩ = some (.string (st [49])) ∧ W.cell? ⟨k, 2, none⟩ = some (.int .i64 2)
theorem Trio.cells {w : World} {g h k : Nat} {W : World} (t : Trio w g h k W) : TrioCells g h k W := by
  obtain ⟨a0, a1, a2⟩ := three_cells t.2.1
  obtain ⟨b0, b1, b2⟩ := three_cells t.2.2.1
  obtain ⟨c0, c1, c2⟩ := three_cells t.2.2.2
  exact ⟨a0, a1, a2, b0, b1, b2, c0, c1, c2⟩
set_option maxRecDepth 100000 in
theorem eq_125 : ∀ W : World, (Op.equalIn 10000 23 (.agg #[.bool false, .string (st [49, 50, 53]), .int .i64 0]) (.agg #[.bool false, .string ⟨#[49, 50, 53]⟩, .int .i64 0])).run Tryd.prog W = .ok true W := by
  intro W
  have h23 := Tryd.underlying23
  have hst : Tryd.prog.stoodInHeld 23 = false := by kernel_rfl
  go_simp

theorem parse_lit {R : Dec × Int} (a : Array UInt8) (h : parseM a.toList = R) (hs : a.size ≤ 1000) (w : World) : Calls Tryd.prog 24 #[.string ⟨a⟩] w (ParsePost R w) := by
  rw [← h]
  exact parse_any ⟨a⟩ w (Nat.le_trans hs (by omega))

set_option maxHeartbeats 1000000 in
set_option maxRecDepth 1000000 in
theorem small_any (w : World) : Calls Tryd.prog 14 #[] w fun e w' => e = .returned (.bool true) ∧ Below w.heap.size w w' := by
  go_enter Tryd.func14, Tryd.ntmps14
  go_wp2_with fail
  refine (parse_lit _ sp1 (by decide) _).mono ?_
  rintro e w1 ⟨rfl, hb2⟩
  have hb := hb2
  clear hb2
  simp only [Dec.val]
  replace hb : Below w.heap.size w (w1.alloc (.cells #[.bool false, .string (st [49, 50, 53]), .int .i64 0] 23)) := hb.alloc (by have := hb.size; omega) _
  have hW1 := Whole.made w1 23 #[.bool false, .string (st [49, 50, 53]), .int .i64 0]
  go_wp2_with fail
  refine (parse_lit _ sp2 (by decide) _).mono ?_
  rintro e w2 ⟨rfl, hb2⟩
  replace hW1 := hW1.grow hb2
  replace hb := below_trans hb hb2
  clear hb2
  simp only [Dec.val, Dec.zero]
  replace hb : Below w.heap.size w (w2.alloc (.cells #[.bool false, .string (st []), .int .i64 0] 23)) := hb.alloc (by have := hb.size; omega) _
  replace hW1 := hW1.alloc (.cells #[.bool false, .string (st []), .int .i64 0] 23)
  have hW2 := Whole.made w2 23 #[.bool false, .string (st []), .int .i64 0]
  go_wp2_with fail
  refine (parse_lit _ sp3 (by decide) _).mono ?_
  rintro e w3 ⟨rfl, hb2⟩
  replace hW1 := hW1.grow hb2
  replace hW2 := hW2.grow hb2
  replace hb := below_trans hb hb2
  clear hb2
  simp only [Dec.val, Dec.zero]
  replace hb : Below w.heap.size w (w3.alloc (.cells #[.bool false, .string (st []), .int .i64 0] 23)) := hb.alloc (by have := hb.size; omega) _
  replace hW1 := hW1.alloc (.cells #[.bool false, .string (st []), .int .i64 0] 23)
  replace hW2 := hW2.alloc (.cells #[.bool false, .string (st []), .int .i64 0] 23)
  go_wp2_with fail
  refine (parse_lit _ sp4 (by decide) _).mono ?_
  rintro e w4 ⟨rfl, hb2⟩
  replace hW1 := hW1.grow hb2
  replace hW2 := hW2.grow hb2
  replace hb := below_trans hb hb2
  clear hb2
  simp only [Dec.val, Dec.zero]
  replace hb : Below w.heap.size w (w4.alloc (.cells #[.bool false, .string (st []), .int .i64 0] 23)) := hb.alloc (by have := hb.size; omega) _
  replace hW1 := hW1.alloc (.cells #[.bool false, .string (st []), .int .i64 0] 23)
  replace hW2 := hW2.alloc (.cells #[.bool false, .string (st []), .int .i64 0] 23)
  go_wp2_with fail
  refine (parse_lit _ sp5 (by decide) _).mono ?_
  rintro e w5 ⟨rfl, hb2⟩
  replace hW1 := hW1.grow hb2
  replace hW2 := hW2.grow hb2
  replace hb := below_trans hb hb2
  clear hb2
  simp only [Dec.val]
  replace hb : Below w.heap.size w (w5.alloc (.cells #[.bool false, .string (st [49]), .int .i64 2] 23)) := hb.alloc (by have := hb.size; omega) _
  replace hW1 := hW1.alloc (.cells #[.bool false, .string (st [49]), .int .i64 2] 23)
  replace hW2 := hW2.alloc (.cells #[.bool false, .string (st [49]), .int .i64 2] 23)
  have hW5 := Whole.made w5 23 #[.bool false, .string (st [49]), .int .i64 2]
  have hT : Trio w w1.heap.size w2.heap.size w5.heap.size _ := ⟨hb, hW1, hW2, hW5⟩
  clear hb hW1 hW2 hW5
  go_upto_region 6 with fail
  have e1 := eq_125
  have e2 := eq_num0 false [] 0
  rw [decide_eq_true ⟨rfl, rfl, rfl⟩] at e2
  go_region_held3 (fun W => Trio w w1.heap.size w2.heap.size w5.heap.size W ∧ W.cell? ⟨w1.heap.size, 0, none⟩ = some (.bool false) ∧ W.cell? ⟨w1.heap.size, 1, none⟩ = some (.string (st [49, 50, 53])) ∧ W.cell? ⟨w1.heap.size, 2, none⟩ = some (.int .i64 0) ∧ W.cell? ⟨w2.heap.size, 0, none⟩ = some (.bool false) ∧ W.cell? ⟨w2.heap.size, 1, none⟩ = some (.string (st [])) ∧ W.cell? ⟨w2.heap.size, 2, none⟩ = some (.int .i64 0) ∧ W.cell? ⟨w5.heap.size, 0, none⟩ = some (.bool false) ∧ W.cell? ⟨w5.heap.size, 1, none⟩ = some (.string (st [49])) ∧ W.cell? ⟨w5.heap.size, 2, none⟩ = some (.int .i64 2)) (first | exact ⟨hT.drew, hT.drew.cells⟩ | exact ⟨hT2, hT2.cells⟩) (first | (go_at_call 20; refine (text_small _ _ _ _ (by decide) (by decide) (by decide)).mono ?_; simp only [st1, st2', st3]; rintro e v ⟨rfl, hb2⟩; have hT2 : Trio w w1.heap.size w2.heap.size w5.heap.size v := Trio.grow (And.left (by assumption)) hb2) | (go_at_call 22; refine (of_99 _).mono ?_; rintro e v ⟨rfl, hb2⟩; have hT2 : Trio w w1.heap.size w2.heap.size w5.heap.size v := Trio.grow (And.left (by assumption)) hb2) | (go_at_call 26; refine (compare_any _ _ _ _ _ _ _ (by decide) (by decide) (by decide) (by decide)).mono ?_; rw [sc1]; rintro e v ⟨rfl, hb2⟩; have hT2 : Trio w w1.heap.size w2.heap.size w5.heap.size v := Trio.grow (And.left (by assumption)) hb2))
  go_wp2_with fail
  go_ret
  exact ⟨rfl, hT2.1⟩
end Go.Proofs.YtpgdmkhcdfhhaaaDoor
