/-
  WALKS: quote.write, quote.Quote.
-/
import Derived.Test.YtmadgdafgkleiaaGreatDoorRun
import Derived.Laws.Bits64b
namespace Go.Proofs.YtmadgdafgkleiaaGreatDoor
open Go.RowKit
def escOf (c : Int) : Option UInt8 :=
  if c = 34 then some 34 else if c = 92 then some 92 else if c = 8 then some 98 else if c = 12 then some 102 else if c = 10 then some 110 else if c = 13 then some 114 else if c = 9 then some 116 else none
set_option maxHeartbeats 1000000 in
set_option maxRecDepth 1000000 in
theorem write_esc (B b : Nat) (l : Bs) (c : Int) (x : UInt8) (w : World) (hc : escOf c = some x) (h : Bld B b l w) (hl : l.length + 6 ≤ 140737488355328) (hB : B ≤ w.heap.size) :
    Calls Tryz.prog 49 #[.pointer (some ⟨b, 0, none⟩), .int .i32 c] w (UnitPost B b (l ++ [92, x]) w) := by
  have H := hq h
  have key : ∀ (c : Int) (x : UInt8), (c = 34 ∧ x = 34 ∨ c = 92 ∧ x = 92 ∨ c = 8 ∧ x = 98 ∨ c = 12 ∧ x = 102 ∨ c = 10 ∧ x = 110 ∨ c = 13 ∧ x = 114 ∨ c = 9 ∧ x = 116) →
      Calls Tryz.prog 49 #[.pointer (some ⟨b, 0, none⟩), .int .i32 c] w (UnitPost B b (l ++ [92, x]) w) := by
    intro c x hcx
    have fin : ∀ w1, Wrote B b (l ++ [92]) w w1 → Calls Tryz.prog 47 #[.pointer (some ⟨b, 0, none⟩), .int .u8 (x.toNat : Int)] w1 fun e w' => e = .returned .nilIface ∧ Wrote B b (l ++ [92, x]) w w' := fun w1 hw1 =>
      (wbyte B b (l ++ [92]) x w1 hw1.1 (by simp; omega) (Nat.le_trans hB hw1.2.1.size)).mono fun e w' ⟨he, hh⟩ => ⟨he, by
        have := hw1.trans hh
        rwa [List.append_assoc] at this⟩
    have one : Calls Tryz.prog 47 #[.pointer (some ⟨b, 0, none⟩), .int .u8 92] w fun e w' => e = .returned .nilIface ∧ Wrote B b (l ++ [92]) w w' := wbyte B b l 92 w H.o (by omega) hB
    have FIN := hq fin
    have ONE := hq one
    clear fin one
    rcases hcx with ⟨rfl, rfl⟩ | ⟨rfl, rfl⟩ | ⟨rfl, rfl⟩ | ⟨rfl, rfl⟩ | ⟨rfl, rfl⟩ | ⟨rfl, rfl⟩ | ⟨rfl, rfl⟩
    all_goals
      go_enter Tryz.func49, Tryz.ntmps49
      go_wp2_with fail
      refine ONE.o.mono ?_
      rintro e w1 ⟨rfl, h1⟩
      go_wp2_with fail
      refine (FIN.o _ h1).mono ?_
      rintro e w2 ⟨rfl, h2⟩
      go_wp2_with fail
      go_end0
      exact ⟨rfl, h2⟩
  unfold escOf at hc
  apply key
  repeat' split at hc
  all_goals (first | (injection hc with hc; subst hc; simp_all) | cases hc)
theorem hex_cases (c : Int) (h0 : 0 ≤ c) (h1 : c < 32) (hc : escOf c = none) : c = 0 ∨ c = 1 ∨ c = 2 ∨ c = 3 ∨ c = 4 ∨ c = 5 ∨ c = 6 ∨ c = 7 ∨ c = 11 ∨ c = 14 ∨ c = 15 ∨ c = 16 ∨ c = 17 ∨ c = 18 ∨ c = 19 ∨ c = 20 ∨ c = 21 ∨ c = 22 ∨ c = 23 ∨ c = 24 ∨ c = 25 ∨ c = 26 ∨ c = 27 ∨ c = 28 ∨ c = 29 ∨ c = 30 ∨ c = 31 := by
  have n : c ≠ 8 ∧ c ≠ 9 ∧ c ≠ 10 ∧ c ≠ 12 ∧ c ≠ 13 := by
    refine ⟨?_, ?_, ?_, ?_, ?_⟩ <;> (intro h; subst h; cases hc)
  omega
def HexIs (c : Int) (x y : UInt8) : Prop := c = 0 ∧ x = 48 ∧ y = 48 ∨ c = 1 ∧ x = 48 ∧ y = 49 ∨ c = 2 ∧ x = 48 ∧ y = 50 ∨ c = 3 ∧ x = 48 ∧ y = 51 ∨ c = 4 ∧ x = 48 ∧ y = 52 ∨ c = 5 ∧ x = 48 ∧ y = 53 ∨ c = 6 ∧ x = 48 ∧ y = 54 ∨ c = 7 ∧ x = 48 ∧ y = 55 ∨ c = 11 ∧ x = 48 ∧ y = 98 ∨ c = 14 ∧ x = 48 ∧ y = 101 ∨ c = 15 ∧ x = 48 ∧ y = 102 ∨ c = 16 ∧ x = 49 ∧ y = 48 ∨ c = 17 ∧ x = 49 ∧ y = 49 ∨ c = 18 ∧ x = 49 ∧ y = 50 ∨ c = 19 ∧ x = 49 ∧ y = 51 ∨ c = 20 ∧ x = 49 ∧ y = 52 ∨ c = 21 ∧ x = 49 ∧ y = 53 ∨ c = 22 ∧ x = 49 ∧ y = 54 ∨ c = 23 ∧ x = 49 ∧ y = 55 ∨ c = 24 ∧ x = 49 ∧ y = 56 ∨ c = 25 ∧ x = 49 ∧ y = 57 ∨ c = 26 ∧ x = 49 ∧ y = 97 ∨ c = 27 ∧ x = 49 ∧ y = 98 ∨ c = 28 ∧ x = 49 ∧ y = 99 ∨ c = 29 ∧ x = 49 ∧ y = 100 ∨ c = 30 ∧ x = 49 ∧ y = 101 ∨ c = 31 ∧ x = 49 ∧ y = 102
theorem hex_is (c : Int) (h0 : 0 ≤ c) (h1 : c < 32) (hc : escOf c = none) : HexIs c (hexd (c.toNat / 16)) (hexd (c.toNat % 16)) := by
  unfold HexIs
  rcases hex_cases c h0 h1 hc with rfl | rfl | rfl | rfl | rfl | rfl | rfl | rfl | rfl | rfl | rfl | rfl | rfl | rfl | rfl | rfl | rfl | rfl | rfl | rfl | rfl | rfl | rfl | rfl | rfl | rfl | rfl
  all_goals (repeat' (first | exact Or.inl ⟨rfl, by decide, by decide⟩ | exact ⟨rfl, by decide, by decide⟩ | apply Or.inr))
set_option maxHeartbeats 4000000 in
set_option maxRecDepth 1000000 in
theorem write_hex (B b : Nat) (l : Bs) (c : Int) (x y : UInt8) (w : World) (hx : HexIs c x y) (h : Bld B b l w) (hl : l.length + 6 ≤ 140737488355328) (hB : B ≤ w.heap.size) :
    Calls Tryz.prog 49 #[.pointer (some ⟨b, 0, none⟩), .int .i32 c] w (UnitPost B b (l ++ [92, 117, 48, 48, x, y]) w) := by
  have ONE : Hq (Calls Tryz.prog 15 #[.pointer (some ⟨b, 0, none⟩), .string ⟨#[92, 117, 48, 48]⟩] w fun e w' => (∃ n, e = .returned (.tuple #[.int .i64 n, .nilIface])) ∧ Wrote B b (l ++ [92, 117, 48, 48]) w w') := hq (wstring B b l [92, 117, 48, 48] w h (by simp; omega) hB)
  have TWO : Hq (∀ w1, Wrote B b (l ++ [92, 117, 48, 48]) w w1 → Calls Tryz.prog 47 #[.pointer (some ⟨b, 0, none⟩), .int .u8 (x.toNat : Int)] w1 fun e w' => e = .returned .nilIface ∧ Wrote B b (l ++ [92, 117, 48, 48, x]) w w') := hq fun w1 hw1 =>
    (wbyte B b (l ++ [92, 117, 48, 48]) x w1 hw1.1 (by simp; omega) (Nat.le_trans hB hw1.2.1.size)).mono fun e w' ⟨he, hh⟩ => ⟨he, by
      have := hw1.trans hh
      rwa [List.append_assoc] at this⟩
  have THREE : Hq (∀ w1, Wrote B b (l ++ [92, 117, 48, 48, x]) w w1 → Calls Tryz.prog 47 #[.pointer (some ⟨b, 0, none⟩), .int .u8 (y.toNat : Int)] w1 fun e w' => e = .returned .nilIface ∧ Wrote B b (l ++ [92, 117, 48, 48, x, y]) w w') := hq fun w1 hw1 =>
    (wbyte B b (l ++ [92, 117, 48, 48, x]) y w1 hw1.1 (by simp; omega) (Nat.le_trans hB hw1.2.1.size)).mono fun e w' ⟨he, hh⟩ => ⟨he, by
      have := hw1.trans hh
      rwa [List.append_assoc] at this⟩
  clear h
  rcases hx with ⟨rfl, rfl, rfl⟩ | ⟨rfl, rfl, rfl⟩ | ⟨rfl, rfl, rfl⟩ | ⟨rfl, rfl, rfl⟩ | ⟨rfl, rfl, rfl⟩ | ⟨rfl, rfl, rfl⟩ | ⟨rfl, rfl, rfl⟩ | ⟨rfl, rfl, rfl⟩ | ⟨rfl, rfl, rfl⟩ | ⟨rfl, rfl, rfl⟩ | ⟨rfl, rfl, rfl⟩ | ⟨rfl, rfl, rfl⟩ | ⟨rfl, rfl, rfl⟩ | ⟨rfl, rfl, rfl⟩ | ⟨rfl, rfl, rfl⟩ | ⟨rfl, rfl, rfl⟩ | ⟨rfl, rfl, rfl⟩ | ⟨rfl, rfl, rfl⟩ | ⟨rfl, rfl, rfl⟩ | ⟨rfl, rfl, rfl⟩ | ⟨rfl, rfl, rfl⟩ | ⟨rfl, rfl, rfl⟩ | ⟨rfl, rfl, rfl⟩ | ⟨rfl, rfl, rfl⟩ | ⟨rfl, rfl, rfl⟩ | ⟨rfl, rfl, rfl⟩ | ⟨rfl, rfl, rfl⟩
  all_goals
    go_enter Tryz.func49, Tryz.ntmps49
    go_wp2_with fail
    refine ONE.o.mono ?_
    rintro e w1 ⟨⟨n, rfl⟩, h1⟩
    go_wp2_with fail
    refine (TWO.o _ h1).mono ?_
    rintro e w2 ⟨rfl, h2⟩
    go_wp2_with fail
    refine (THREE.o _ h2).mono ?_
    rintro e w3 ⟨rfl, h3⟩
    go_wp2_with fail
    go_end0
    exact ⟨rfl, h3⟩
set_option maxHeartbeats 1000000 in
set_option maxRecDepth 1000000 in
theorem write_rune (B b : Nat) (l t : Bs) (c : Int) (w : World) (h0 : 32 ≤ c) (h1 : c ≤ 2147483647) (hc : escOf c = none) (ht : Lib.runeCells c = Lib.byteCells t) (h : Bld B b l w) (hl : l.length + 6 ≤ 140737488355328) (hB : B ≤ w.heap.size) :
    Calls Tryz.prog 49 #[.pointer (some ⟨b, 0, none⟩), .int .i32 c] w (UnitPost B b (l ++ t) w) := by
  have n : c ≠ 34 ∧ c ≠ 92 := by
    refine ⟨?_, ?_⟩ <;> (intro h; subst h; cases hc)
  obtain ⟨n1, n2⟩ := n
  have e1 : (c == 34) = false := beq_eq_false_iff_ne.2 n1
  have e2 : (c == 92) = false := beq_eq_false_iff_ne.2 n2
  have e3 : (c == 8) = false := beq_eq_false_iff_ne.2 (by omega)
  have e4 : (c == 12) = false := beq_eq_false_iff_ne.2 (by omega)
  have e5 : (c == 10) = false := beq_eq_false_iff_ne.2 (by omega)
  have e6 : (c == 13) = false := beq_eq_false_iff_ne.2 (by omega)
  have e7 : (c == 9) = false := beq_eq_false_iff_ne.2 (by omega)
  have ONE := hq (wrune B b l t c w (by omega) h1 ht h (by omega) hB)
  clear n1 n2 ht h hc
  go_enter Tryz.func49, Tryz.ntmps49
  go_wp2_with fail
  refine ONE.o.mono ?_
  rintro e w1 ⟨⟨n, rfl⟩, h2⟩
  go_wp2_with fail
  go_end0
  exact ⟨rfl, h2⟩
end Go.Proofs.YtmadgdafgkleiaaGreatDoor

