/-
  WALKS: the document's Once, says, ahead, rows, Ahead of layer 23; rows beside each other; Short.
-/
import Derived.Test.YtccdmoogjcgcfaaOrA
namespace Go.Proofs.Ytccdmoogjcgcfaa
open Go.RowKit

theorem bl_irr : ∀ x : Bs, Op.bytesLess x x = false
  | [] => rfl
  | a :: x => by
    unfold Op.bytesLess
    simp [bl_irr x]
theorem bl_tri : ∀ x y : Bs, Op.bytesLess x y = false → Op.bytesLess y x = false → x = y
  | [], [], _, _ => rfl
  | [], b :: y, h, _ => by simp [Op.bytesLess] at h
  | a :: x, [], _, h => by simp [Op.bytesLess] at h
  | a :: x, b :: y, h1, h2 => by
    unfold Op.bytesLess at h1 h2
    simp at h1 h2
    have hab : a = b := by
      have h3 := h1.1
      have h4 := h2.1
      rw [UInt8.le_iff_toNat_le] at h3 h4
      exact UInt8.toNat_inj.1 (by omega)
    subst hab
    rw [bl_tri x y (by simpa using h1) (by simpa using h2)]
def encI : Option Nat → Int
  | some i => (i : Int)
  | none => -1

set_option maxHeartbeats 1000000 in
set_option maxRecDepth 1000000 in
theorem rsays_any (o : Option Addr) (cap : Nat) (l : List Bs) (x y : Bs) (w : World) (hl : l.length ≤ cap) (hc : cap ≤ maxLen) (hin : StrsIn w o l) :
    Calls Try.prog 29 #[.slice o l.length cap, .string (st x), .string (st y)] w fun e w' => e = .returned (.int .i64 (sayM l x y)) ∧ w' = w := by
  have HIN := hq hin
  unfold maxLen at hc
  clear hin
  have HSY : Hq (sayM l x y = match lastTo x l l.length, lastTo y l l.length with | some i, some j => if i < j then -1 else if j < i then 1 else 0 | _, _ => 0) := hq rfl
  generalize sayM l x y = S at *
  go_enter Try.func29, Try.ntmps29
  go_wp2_with fail
  go_loop [7, 8, 9] (fun a b i => ∃ k : Nat, k ≤ l.length ∧ i = .int .i64 (k : Int) ∧ a = .int .i64 (encI (lastTo x l k)) ∧ b = .int .i64 (encI (lastTo y l k))) (fun _ _ i => l.length - (intOf i).toNat)
  case atStart => exact ⟨0, Nat.zero_le _, rfl, rfl, rfl⟩
  case round =>
    obtain ⟨k, hk, rfl, rfl, rfl⟩ := hrel
    by_cases h : k < l.length
    · obtain ⟨b, f, rfl, hcell⟩ := HIN.o k h
      have hkz : (k : Int) < (l.length : Int) := by omega
      have HX : Hq (lastTo x l (k + 1) = if l[k] = x then some k else lastTo x l k) := hq (lastTo_step h)
      have HY : Hq (lastTo y l (k + 1) = if l[k] = y then some k else lastTo y l k) := hq (lastTo_step h)
      generalize l[k] = z at *
      have HEX : Hq (encI (lastTo x l k) = encI (lastTo x l k)) := hq rfl
      have HEY : Hq (encI (lastTo y l k) = encI (lastTo y l k)) := hq rfl
      generalize hex : encI (lastTo x l k) = ex at *
      generalize hey : encI (lastTo y l k) = ey at *
      replace HEX : Hq (encI (lastTo x l k) = ex) := hq hex
      replace HEY : Hq (encI (lastTo y l k) = ey) := hq hey
      clear hex hey HSY
      have c0 : w.cell? ⟨b, f + k, none⟩ = some (.string (st z)) := hcell
      by_cases hx : z = x
      · have e1 : (z == x) = true := beq_iff_eq.2 hx
        have HX2 : Hq (lastTo x l (k + 1) = some k) := hq (by rw [HX.o, if_pos hx])
        by_cases hy : z = y
        · have e2 : (z == y) = true := beq_iff_eq.2 hy
          have HY2 : Hq (lastTo y l (k + 1) = some k) := hq (by rw [HY.o, if_pos hy])
          clear hx hy HX HY
          go_wp2_with fail
          go_round
          case rel => exact ⟨k + 1, h, int_eq (by omega), (by rw [HX2.o]; rfl), (by rw [HY2.o]; rfl)⟩
          case measure => simp [intOf]; omega
        · have e2 : (z == y) = false := beq_eq_false_iff_ne.2 hy
          have HY2 : Hq (lastTo y l (k + 1) = lastTo y l k) := hq (by rw [HY.o, if_neg hy])
          clear hx hy HX HY
          go_wp2_with fail
          go_round
          case rel => exact ⟨k + 1, h, int_eq (by omega), (by rw [HX2.o]; rfl), (by rw [HY2.o, HEY.o])⟩
          case measure => simp [intOf]; omega
      · have e1 : (z == x) = false := beq_eq_false_iff_ne.2 hx
        have HX2 : Hq (lastTo x l (k + 1) = lastTo x l k) := hq (by rw [HX.o, if_neg hx])
        by_cases hy : z = y
        · have e2 : (z == y) = true := beq_iff_eq.2 hy
          have HY2 : Hq (lastTo y l (k + 1) = some k) := hq (by rw [HY.o, if_pos hy])
          clear hx hy HX HY
          go_wp2_with fail
          go_round
          case rel => exact ⟨k + 1, h, int_eq (by omega), (by rw [HX2.o, HEX.o]), (by rw [HY2.o]; rfl)⟩
          case measure => simp [intOf]; omega
        · have e2 : (z == y) = false := beq_eq_false_iff_ne.2 hy
          have HY2 : Hq (lastTo y l (k + 1) = lastTo y l k) := hq (by rw [HY.o, if_neg hy])
          clear hx hy HX HY
          go_wp2_with fail
          go_round
          case rel => exact ⟨k + 1, h, int_eq (by omega), (by rw [HX2.o, HEX.o]), (by rw [HY2.o, HEY.o])⟩
          case measure => simp [intOf]; omega
    · have h' : ¬ (k : Int) < (l.length : Int) := by omega
      obtain rfl : k = l.length := by omega
      cases ha : lastTo x l l.length with
      | none =>
        have HS : Hq (S = 0) := hq (by rw [HSY.o, ha])
        clear HSY
        simp only [encI]
        go_wp2_with fail
        all_goals
          go_ret
          exact ⟨by rw [HS.o]; rfl, rfl⟩
      | some i =>
        cases hb : lastTo y l l.length with
        | none =>
          have HS : Hq (S = 0) := hq (by rw [HSY.o, ha, hb])
          clear HSY
          simp only [encI]
          go_wp2_with fail
          all_goals
            go_ret
            exact ⟨by rw [HS.o]; rfl, rfl⟩
        | some j =>
          have HS : Hq (S = if i < j then -1 else if j < i then 1 else 0) := hq (by rw [HSY.o, ha, hb])
          clear HSY
          simp only [encI]
          by_cases h1 : i < j
          · have h1i : (i : Int) < (j : Int) := by omega
            have e1 : ((i : Int) == (j : Int)) = false := beq_eq_false_iff_ne.2 (by omega)
            have e2 : (i == j) = false := beq_eq_false_iff_ne.2 (by omega)
            have HS2 : Hq (S = -1) := hq (by rw [HS.o, if_pos h1])
            clear HS
            go_wp2_with fail
            go_ret
            exact ⟨by rw [HS2.o]; rfl, rfl⟩
          · by_cases h2 : j < i
            · have h1i : ¬ (i : Int) < (j : Int) := by omega
              have e1 : ((i : Int) == (j : Int)) = false := beq_eq_false_iff_ne.2 (by omega)
              have e2 : (i == j) = false := beq_eq_false_iff_ne.2 (by omega)
              have HS2 : Hq (S = 1) := hq (by rw [HS.o, if_neg h1, if_pos h2])
              clear HS
              go_wp2_with fail
              go_ret
              exact ⟨by rw [HS2.o]; rfl, rfl⟩
            · obtain rfl : i = j := by omega
              have HS2 : Hq (S = 0) := hq (by rw [HS.o, if_neg h1, if_neg h2])
              clear HS
              go_wp2_with fail
              go_ret
              exact ⟨by rw [HS2.o]; rfl, rfl⟩
end Go.Proofs.Ytccdmoogjcgcfaa
