/-
  WALK: the document's Decimal.
-/
import Derived.Test.YtpgdmkhcdfhhaaaDoorNumRefQ
import Derived.Test.YtpgdmkhcdfhhaaaDoorNumText
import Derived.IntWalk
namespace Go.Proofs.YtpgdmkhcdfhhaaaDoor
open Go.RowKit

theorem dig_cut (r : Nat) (h : r < 10) : (⟨#[48, 49, 50, 51, 52, 53, 54, 55, 56, 57]⟩ : ByteArray).extract r (r + 1) = st [UInt8.ofNat (48 + r)] := by
  match r, h with
  | 0, _ => rfl
  | 1, _ => rfl
  | 2, _ => rfl
  | 3, _ => rfl
  | 4, _ => rfl
  | 5, _ => rfl
  | 6, _ => rfl
  | 7, _ => rfl
  | 8, _ => rfl
  | 9, _ => rfl
  | n + 10, h => omega
def DcmlPost (s : ByteArray) (w : World) (e : Ending) (w' : World) : Prop := e = .returned (.string s) ∧ ∃ m, w' = w.drewN m
def Dcml (n : Int) : Prop := ∀ w : World, Calls Tryd.prog 28 #[.int .i64 n] w fun e w' => e = .returned (.string (st (Lib.itoa n))) ∧ ∃ m, w' = w.drewN m

theorem itoa_of (n : Int) : Lib.itoa n = if n < 0 then 45 :: Lib.decDigits n.natAbs else Lib.decDigits n.natAbs := by
  unfold Lib.itoa
  split
  · rfl
  · rename_i h; rw [show n.toNat = n.natAbs by omega]
theorem itoa_pos (u : Nat) : Lib.itoa (u : Int) = Lib.decDigits u := by rw [itoa_of, if_neg (by omega)]; rfl
theorem itoa_minus (u : Nat) (hu : 0 < u) : Lib.itoa (-(u : Int)) = 45 :: Lib.decDigits u := by rw [itoa_of, if_pos (by omega), show (-(u : Int)).natAbs = u by omega]
theorem dec_step (q r : Nat) (h : r < 10) (hq : 0 < q) : Lib.decDigits (10 * q + r) = Lib.decDigits q ++ [UInt8.ofNat (48 + r)] := by
  rw [dec_great (by omega), show (10 * q + r) / 10 = q by omega, show (10 * q + r) % 10 = r by omega]

set_option maxHeartbeats 1000000 in
set_option maxRecDepth 1000000 in
theorem dcml_small (r : Nat) (h : r < 10) : Dcml r := by
  intro w
  have hc := dig_cut r h
  have HI : Hq (Lib.itoa r = [UInt8.ofNat (48 + r)]) := hq (by rw [itoa_pos, dec_small h])
  generalize UInt8.ofNat (48 + r) = c at *
  go_enter Tryd.func28, Tryd.ntmps28
  go_wp2_with fail
  go_ret
  exact ⟨by rw [HI.o]; rfl, 0, rfl⟩
set_option maxHeartbeats 1000000 in
set_option maxRecDepth 1000000 in
theorem dcml_neg (r : Nat) (h0 : 0 < r) (h : r < 10) : Dcml (-(r : Int)) := by
  intro w
  have hc := dig_cut r h
  have HI : Hq (st (Lib.itoa (-(r : Int))) = st [45] ++ st [UInt8.ofNat (48 + r)]) := hq (by rw [itoa_minus r h0, dec_small h]; rfl)
  generalize UInt8.ofNat (48 + r) = c at *
  have g1 : ¬ (0 : Int) ≤ -(r : Int) := by omega
  have g2 : ¬ (0 : Int) < -(r : Int) := by omega
  have g3 : (-10 : Int) < -(r : Int) := by omega
  go_enter Tryd.func28, Tryd.ntmps28
  go_wp2_with fail
  go_ret
  exact ⟨by rw [HI.o]; rfl, 0, rfl⟩
set_option maxHeartbeats 1000000 in
set_option maxRecDepth 1000000 in
theorem dcml_step (q r n : Nat) (h : r < 10) (hq0 : 0 < q) (hn : n = 10 * q + r) (hb : n ≤ 9223372036854775807) (ih : Dcml q) : Dcml (n : Int) := by
  intro w
  have hc := dig_cut r h
  have HI : Hq (st (Lib.itoa q) ++ st [UInt8.ofNat (48 + r)] = st (Lib.itoa (n : Int))) := hq (by
    rw [cat_st, itoa_pos, itoa_pos, hn, dec_step q r h hq0])
  generalize UInt8.ofNat (48 + r) = c at *
  have e1 : (n : Int).tdiv 10 = q := by rw [Int.tdiv_eq_ediv_of_nonneg (by omega)]; omega
  have e2 : (n : Int).tmod 10 = r := by rw [Int.tmod_eq_emod_of_nonneg (by omega)]; omega
  have e3 : IntKind.i64.wrap ((r : Int) + 1) = (r : Int) + 1 := IntWalk.i64_in _ (by omega)
  have e4 : ((r : Int) + 1).toNat = r + 1 := by omega
  have e7 : wrap64 (q : Int) = (q : Int) := by unfold wrap64; omega
  have hL : (Lib.itoa q).length ≤ 1000 := Nat.le_trans (Lib.itoa_length_le _ (by omega) (by omega)) (by omega)
  have hz : (st (Lib.itoa q)).size ≤ 1000 := by rw [st_size]; exact hL
  have g1 : ¬ (n : Int) < 10 := by omega
  have g2 : (0 : Int) < (n : Int) := by omega
  have g3 : (0 : Int) ≤ (n : Int) := by omega
  have IH := hq ih
  clear ih hn
  go_enter Tryd.func28, Tryd.ntmps28
  go_upto_region 5 with fail
  go_quiet ((go_at_call 28; exact Calls.quiet_of (IH.o _)))
  go_wp2_with fail
  go_ret
  exact ⟨by rw [← HI.o]; rfl, nq, rfl⟩
set_option maxHeartbeats 1000000 in
set_option maxRecDepth 1000000 in
theorem dcml_stepN (q r n : Nat) (h : r < 10) (hq0 : 0 < q) (hn : n = 10 * q + r) (hb : n ≤ 9223372036854775808) (ih : Dcml (-(q : Int))) : Dcml (-(n : Int)) := by
  intro w
  have hc := dig_cut r h
  have HI : Hq (st (Lib.itoa (-(q : Int))) ++ st [UInt8.ofNat (48 + r)] = st (Lib.itoa (-(n : Int)))) := hq (by
    rw [cat_st, itoa_minus q hq0, itoa_minus n (by omega), hn, dec_step q r h hq0]; rfl)
  generalize UInt8.ofNat (48 + r) = c at *
  have e1 : (-(n : Int)).tdiv 10 = -(q : Int) := by rw [Int.neg_tdiv, Int.tdiv_eq_ediv_of_nonneg (by omega)]; omega
  have e2 : (-(n : Int)).tmod 10 = -(r : Int) := by rw [Int.neg_tmod, Int.tmod_eq_emod_of_nonneg (by omega)]; omega
  have e5 : IntKind.i64.wrap (- -(r : Int)) = (r : Int) := by rw [Int.neg_neg]; exact IntWalk.i64_in _ (by omega)
  have e6 : IntKind.i64.wrap (r : Int) = (r : Int) := IntWalk.i64_in _ (by omega)
  have e3 : IntKind.i64.wrap ((r : Int) + 1) = (r : Int) + 1 := IntWalk.i64_in _ (by omega)
  have e4 : ((r : Int) + 1).toNat = r + 1 := by omega
  have e7 : wrap64 (-(q : Int)) = -(q : Int) := by unfold wrap64; omega
  have hL : (Lib.itoa (-(q : Int))).length ≤ 1000 := Nat.le_trans (Lib.itoa_length_le _ (by omega) (by omega)) (by omega)
  have hz : (st (Lib.itoa (-(q : Int)))).size ≤ 1000 := by rw [st_size]; exact hL
  have g1 : ¬ (0 : Int) ≤ -(n : Int) := by omega
  have g2 : ¬ (0 : Int) < -(n : Int) := by omega
  have g3 : ¬ (-10 : Int) < -(n : Int) := by omega
  have IH := hq ih
  clear ih hn
  go_enter Tryd.func28, Tryd.ntmps28
  go_upto_region 8 with fail
  go_quiet ((go_at_call 28; exact Calls.quiet_of (IH.o _)))
  go_wp2_with fail
  go_ret
  exact ⟨by rw [← HI.o]; rfl, nq, rfl⟩
theorem dcml_any (n : Int) (h0 : -9223372036854775808 ≤ n) (h1 : n ≤ 9223372036854775807) : Dcml n := by
  have key : ∀ (m : Nat) (u : Nat), u ≤ m → (u ≤ 9223372036854775807 → Dcml u) ∧ (0 < u → u ≤ 9223372036854775808 → Dcml (-(u : Int))) := by
    intro m
    induction m with
    | zero => intro u hu; obtain rfl : u = 0 := by omega
              exact ⟨fun _ => dcml_small 0 (by omega), fun h => absurd h (by omega)⟩
    | succ m ih =>
      intro u hu
      by_cases hs : u < 10
      · exact ⟨fun _ => dcml_small u hs, fun h _ => dcml_neg u h hs⟩
      · obtain ⟨i1, i2⟩ := ih (u / 10) (by omega)
        exact ⟨fun h => dcml_step (u / 10) (u % 10) u (by omega) (by omega) (by omega) h (i1 (by omega)), fun _ h => dcml_stepN (u / 10) (u % 10) u (by omega) (by omega) (by omega) h (i2 (by omega) (by omega))⟩
  by_cases hn : 0 ≤ n
  · obtain ⟨u, rfl⟩ := Int.eq_ofNat_of_zero_le hn
    exact (key u u (Nat.le_refl _)).1 (by omega)
  · obtain ⟨u, hu⟩ := Int.eq_ofNat_of_zero_le (a := -n) (by omega)
    obtain rfl : n = -(u : Int) := by omega
    exact (key u u (Nat.le_refl _)).2 (by omega) (by omega)
theorem drewN_below (w : World) (k : Nat) : Below w.heap.size w (w.drewN k) := below_drewN (Below.refl _ _) k
theorem rdecimal_any (n : Int) (w : World) (h0 : -9223372036854775808 ≤ n) (h1 : n ≤ 9223372036854775807) :
    Calls Tryd.prog 28 #[.int .i64 n] w fun e w' => e = .returned (.string (st (Lib.itoa n))) ∧ Below w.heap.size w w' :=
  (dcml_any n h0 h1 w).mono fun _ _ ⟨he, m, hm⟩ => ⟨he, by rw [hm]; exact drewN_below w m⟩
end Go.Proofs.YtpgdmkhcdfhhaaaDoor
