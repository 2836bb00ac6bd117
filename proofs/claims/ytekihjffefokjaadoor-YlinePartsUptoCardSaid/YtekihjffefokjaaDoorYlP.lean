/-
  THE WALK OF THE LAW YlineParts.
-/
import Derived.Test.YtekihjffefokjaaDoorYlI
import Derived.Test.YtekihjffefokjaaDoorYlSm
import Derived.Deep.RegionHeld3
import Derived.Lib.ConvBytes
namespace Go.Proofs.YtekihjffefokjaaDoor
open Go.RowKit

theorem byt_at (s : ByteArray) (i : Nat) (h : i < s.size) : byt s i = ((s.data.toList)[i]'(by rw [Array.length_toList]; exact h)).toNat := by
  rw [byt_eq s i h]; rfl
def k0V (p : Int) : Option Nat → Int | none => 0 | some _ => p
def k1V : Option Nat → Int | none => 0 | some e => (e : Int)
def lineP (kd : Nat) (sz p : Int) (ko : Option Nat) (r0 r1 : Int) (no : Option Nat) : LineR :=
  ⟨kd, 0, sz, p, k0V p ko, k1V ko, r0, r1, k1V no, k0V sz no⟩
theorem parts_cases (s : ByteArray) : (∃ (q : Nat) (err : Int), q ≤ s.size ∧ err ≠ 0 ∧ lineM s 0 s.size = (lineZ, (q : Int), err)) ∨
    (∃ (kd p r0 r1 : Nat) (ko no : Option Nat), LineOk s p kd ko r0 r1 no ∧ p ≤ s.size ∧ (∀ i, i < p → byt s i = 32) ∧ lineM s 0 s.size = (lineP kd s.size p ko r0 r1 no, (s.size : Int), 0)) := by
  rw [lineM_all s]
  have hcl := clnM_le s true s.size 0
  have hbl := blk_le s 0 (Nat.zero_le _)
  by_cases h1 : hasLF s = true
  · left; rw [if_pos h1]; exact ⟨0, 1, Nat.zero_le _, by decide, rfl⟩
  · rw [if_neg h1]
    by_cases h2 : cleanM s true = s.size
    · rw [if_neg (fun hh => hh h2)]
      cases hD : lineD s (blk s 0) with
      | none => left; exact ⟨blk s 0, 2, hbl, by decide, rfl⟩
      | some d =>
        right
        have hok := lineD_ok s (blk s 0) hbl d hD
        obtain ⟨kd, ko, ⟨r0, r1⟩, no⟩ := d
        refine ⟨kd, blk s 0, r0, r1, ko, no, hok, hbl, fun i hi => blk_in s 0 i (Nat.zero_le _) hi, ?_⟩
        show (lineR 0 s.size (blk s 0) (kd, ko, (r0, r1), no), (s.size : Int), (0 : Int)) = _
        unfold lineR lineP
        cases ko <;> cases no <;> simp [k0V, k1V]
    · rw [if_pos h2]
      left
      exact ⟨cleanM s true, 2, hcl, by decide, rfl⟩

/-- the line's box, while other memory is made -/
structure PB (w : World) (b : Nat) (cs : Array Value) (W : World) : Prop where
  below : Below w.heap.size w W
  box : Whole W b 26 cs
  size : w.heap.size ≤ W.heap.size
theorem PB.grow {w W W' : World} {b : Nat} {cs : Array Value} (h : PB w b cs W) (hb : Below W.heap.size W W') : PB w b cs W' := ⟨below_trans h.below hb, h.box.grow hb, Nat.le_trans h.size hb.size⟩
theorem PB.drew {w W : World} {b : Nat} {cs : Array Value} (h : PB w b cs W) : PB w b cs W.drew := ⟨h.below.drew, h.box, h.size⟩
theorem PB.cells {w W : World} {b : Nat} {x0 x1 x2 x3 x4 x5 x6 x7 x8 x9 : Value} (h : PB w b #[x0, x1, x2, x3, x4, x5, x6, x7, x8, x9] W) :
    W.cell? ⟨b, 0, none⟩ = some x0 ∧ W.cell? ⟨b, 1, none⟩ = some x1 ∧ W.cell? ⟨b, 2, none⟩ = some x2 ∧ W.cell? ⟨b, 3, none⟩ = some x3 := ⟨h.box.at_ 0, h.box.at_ 1, h.box.at_ 2, h.box.at_ 3⟩

set_option maxHeartbeats 4000000 in
set_option maxRecDepth 1000000 in
theorem lparts_any (s : ByteArray) (w : World) (hT : tabs w) (hm : mx w) (hs : s.size ≤ 1048576) :
    Calls Tryd.prog 6 #[.string s] w fun e w' => e = .returned (.bool true) ∧ Below w.heap.size w w' := by
  have HPC := hq (parts_cases s)
  have HL := hq (fun W (hW : tabs W) => yline_any s 0 (s.size : Int) W hW (by omega) (by omega) (by omega))
  have HA := hq (fun W => yall_any s W (by unfold maxLen; omega))
  have HSM := hq (fun W (hW : tabs W) (hM : mx W) => ysmall_any W hW hM)
  have HT := hq hT
  have HM := hq hm
  clear hT hm
  generalize hR : lineM s 0 s.size = R at *
  clear hR
  rcases HPC.o with ⟨q, err, hq1, he, rfl⟩ | ⟨kd, p, r0, r1, ko, no, hok, hp, hbl, rfl⟩
  · clear HPC
    simp only [lineZ, LineR.val] at HL
    have e1 : (err != 0) = true := bne_iff_ne.2 he
    have E1 := eq_line 0 0 0 0 0 0 0 0 0 0
    clear he
    go_enter Tryd.func6, Tryd.ntmps6
    go_wp2_with fail
    refine (HSM.o _ HT.o HM.o).mono ?_
    rintro e w1 ⟨rfl, hb1⟩
    have HB1 := hq hb1
    clear hb1 HSM
    go_wp2_with fail
    refine (HA.o _).mono ?_
    rintro e w2 ⟨rfl, hb2⟩
    have HB2 := hq (below_trans HB1.o hb2)
    clear hb2 HA HB1
    go_wp2_with fail
    refine (HL.o _ (tabs_grow HT.o HB2.o)).mono ?_
    rintro e w3 ⟨rfl, hb3⟩
    have HB3 := hq (below_trans HB2.o hb3)
    clear hb3 HL HB2
    go_wp2_with fail
    go_ret
    exact ⟨rfl, HB3.o.alloc HB3.o.size _⟩
  · clear HPC
    obtain ⟨a1, a2, a3, a4, a5, a6, a7, a8, a9, a10, a11, a12⟩ := hok
    have HBL := hq hbl
    have HL9 := hq a9
    have HN10 := hq a10
    have HN11 := hq a11
    have HE12 := hq a12
    have HK3 := hq a3
    have HK4 := hq a4
    have HI5 := hq a5
    clear hbl a9 a10 a11 a12 a3 a4 a5
    obtain ⟨k0, hk0⟩ : ∃ k0 : Int, k0 = k0V p ko := ⟨_, rfl⟩
    obtain ⟨k1, hk1⟩ : ∃ k1 : Int, k1 = k1V ko := ⟨_, rfl⟩
    obtain ⟨n0, hn0⟩ : ∃ n0 : Int, n0 = k1V no := ⟨_, rfl⟩
    obtain ⟨n1, hn1⟩ : ∃ n1 : Int, n1 = k0V s.size no := ⟨_, rfl⟩
    have hx : (lineP kd s.size p ko r0 r1 no).val = .agg #[.int .i64 (kd : Int), .int .i64 0, .int .i64 (s.size : Int), .int .i64 (p : Int), .int .i64 k0, .int .i64 k1, .int .i64 (r0 : Int), .int .i64 (r1 : Int), .int .i64 n0, .int .i64 n1] := by
      rw [hk0, hk1, hn0, hn1]; rfl
    have HX := hq hx
    have HK0 := hq hk0
    have HK1 := hq hk1
    have HN0 := hq hn0
    have HN1 := hq hn1
    clear hx hk0 hk1 hn0 hn1
    go_enter Tryd.func6, Tryd.ntmps6
    go_wp2_with fail
    refine (HSM.o _ HT.o HM.o).mono ?_
    rintro e' w1 ⟨rfl, hb1⟩
    have HB1 := hq hb1
    clear hb1 HSM
    go_wp2_with fail
    refine (HA.o _).mono ?_
    rintro e' w2 ⟨rfl, hb2⟩
    have HB2 := hq (below_trans HB1.o hb2)
    clear hb2 HB1
    go_wp2_with fail
    refine (HL.o _ (tabs_grow HT.o HB2.o)).mono ?_
    rintro e' w3 ⟨rfl, hb3⟩
    dsimp only
    rw [HX.o]
    have HB3 := hq (below_trans HB2.o hb3)
    clear hb3 HL HB2
    have HPB0 : PB w w3.heap.size #[.int .i64 (kd : Int), .int .i64 0, .int .i64 (s.size : Int), .int .i64 (p : Int), .int .i64 k0, .int .i64 k1, .int .i64 (r0 : Int), .int .i64 (r1 : Int), .int .i64 n0, .int .i64 n1] (w3.alloc (.cells #[.int .i64 (kd : Int), .int .i64 0, .int .i64 (s.size : Int), .int .i64 (p : Int), .int .i64 k0, .int .i64 k1, .int .i64 (r0 : Int), .int .i64 (r1 : Int), .int .i64 n0, .int .i64 n1] 26)) := ⟨HB3.o.alloc HB3.o.size _, Whole.made _ _ _, by have := HB3.o.size; rw [World.size_alloc]; omega⟩
    go_upto_region 5 with fail
    generalize w3.alloc (.cells #[.int .i64 (kd : Int), .int .i64 0, .int .i64 (s.size : Int), .int .i64 (p : Int), .int .i64 k0, .int .i64 k1, .int .i64 (r0 : Int), .int .i64 (r1 : Int), .int .i64 n0, .int .i64 n1] 26) = w4 at *
    generalize w3.heap.size = bx at *
    have E1 : ∀ W : World, (Op.equalIn 10000 23 (.agg #[.int .i64 0, .int .i64 (s.size : Int)]) (.agg #[.int .i64 0, .int .i64 (s.size : Int)])).run Tryd.prog W = .ok true W := fun W => by rw [eq_span]; simp
    have t1 : ((s.size : Int) != (s.size : Int)) = false := by simp
    have t2 : ¬ (p : Int) < 0 := by omega
    have t3 : ¬ (s.size : Int) < (p : Int) := by omega
    have t4 : ¬ (kd : Int) < 1 := by omega
    have t5 : ¬ (5 : Int) < (kd : Int) := by omega
    have t6 : decide (s.size < p) = false := decide_eq_false (by omega)
    have t7 : decide ((s.size : Int) < (p : Int)) = false := decide_eq_false (by omega)
    have t8 : decide ((kd : Int) < 1) = false := decide_eq_false (by omega)
    have t9 : decide ((5 : Int) < (kd : Int)) = false := decide_eq_false (by omega)
    have HPB := HPB0
    have cc := HPB0.cells
    have hcv := fun W => Lib.run_convert_string_bytes (P := Tryd.prog) W 9 38 5 s Tryd.underlying9 Tryd.underlying38 Tryd.underlying5
    go_region_held3 (fun W => PB w bx #[.int .i64 (kd : Int), .int .i64 0, .int .i64 (s.size : Int), .int .i64 (p : Int), .int .i64 k0, .int .i64 k1, .int .i64 (r0 : Int), .int .i64 (r1 : Int), .int .i64 n0, .int .i64 n1] W ∧ W.cell? ⟨bx, 0, none⟩ = some (.int .i64 (kd : Int)) ∧ W.cell? ⟨bx, 1, none⟩ = some (.int .i64 0) ∧ W.cell? ⟨bx, 2, none⟩ = some (.int .i64 (s.size : Int)) ∧ W.cell? ⟨bx, 3, none⟩ = some (.int .i64 (p : Int))) (first | exact ⟨HPB.drew, HPB.drew.cells⟩ | exact ⟨hT2, hT2.cells⟩) ((go_at_call 17; refine (HA.o _).mono ?_; rintro e' w9 ⟨rfl, hb9⟩; have hT2 : PB w bx #[.int .i64 (kd : Int), .int .i64 0, .int .i64 (s.size : Int), .int .i64 (p : Int), .int .i64 k0, .int .i64 k1, .int .i64 (r0 : Int), .int .i64 (r1 : Int), .int .i64 n0, .int .i64 n1] w9 := PB.grow (And.left (by assumption)) hb9))
    have hpb9 : PB w bx #[.int .i64 (kd : Int), .int .i64 0, .int .i64 (s.size : Int), .int .i64 (p : Int), .int .i64 k0, .int .i64 k1, .int .i64 (r0 : Int), .int .i64 (r1 : Int), .int .i64 n0, .int .i64 n1] w9 := And.left (by assumption)
    have HPB9 := hq (hpb9.grow (Lib.bytesWorld_below w9 5 s))
    have HBC := hq (fun j hj => Lib.bytesWorld_cell w9 5 s j hj)
    clear t1 t2 t3 t4 t5 t6 t7 t8 t9 E1 HPB HPB0 cc
    go_upto_region 8 with fail
    generalize Lib.bytesWorld w9 5 s = wb at *
    generalize grownCap w9 s.size 0 5 = gc at *
    clear hcv
    have x0 := HPB9.o.box.at_ 0
    have x3 := HPB9.o.box.at_ 3
    have x4 := HPB9.o.box.at_ 4
    have x5 := HPB9.o.box.at_ 5
    have x6 := HPB9.o.box.at_ 6
    have x7 := HPB9.o.box.at_ 7
    have x8 := HPB9.o.box.at_ 8
    have x9 := HPB9.o.box.at_ 9
    have hbx := HPB9.o.box.lt
    generalize w9.heap.size = b9 at *
    go_wp2_with fail
    go_loop [9] (fun v => ∃ i : Nat, i ≤ p ∧ v = .int .i64 (i : Int)) (fun v => p - (intOf v).toNat)
    case atStart => exact ⟨0, Nat.zero_le _, rfl⟩
    case round =>
      obtain ⟨i, hi, rfl⟩ := hrel
      by_cases hip : i < p
      · have c0 := HBC.o i (by omega)
        have hgd : (((s.data.toList.getD i 0).toNat : Nat) : Int) = 32 := by
          have h1 := HBL.o i hip
          have h1 : (((s.data.toList[i]'(by rw [Array.length_toList]; show i < s.size; omega)).toNat : Nat) : Int) = 32 := by rw [← byt_at s i (by omega), h1]; rfl
          have hlen : i < s.data.toList.length := by rw [Array.length_toList]; show i < s.size; omega
          rw [List.getD_eq_getElem?_getD, List.getElem?_eq_getElem hlen]
          simp only [Option.getD_some]
          exact h1
        rw [hgd] at c0
        clear hgd
        go_wp2_with fail
        go_round
        case rel => exact ⟨i + 1, by omega, int_eq (by omega)⟩
        case measure => simp [intOf]; omega
      · obtain rfl : i = p := by omega
        clear hip hi
        have HBW := hq (HPB9.o.below.alloc HPB9.o.size (.cells #[.int .i64 0, .int .i64 0] 23))
        go_upto_region 14 with fail
        cases ko with
        | none =>
          obtain rfl : k0 = 0 := HK0.o
          obtain rfl : k1 = 0 := HK1.o
          have E2 : ∀ W : World, (Op.equalIn 10000 23 (.agg #[.int .i64 0, .int .i64 0]) (.agg #[.int .i64 0, .int .i64 0])).run Tryd.prog W = .ok true W := fun W => by rw [eq_span]; rfl
          have hk4 : ((kd : Int) == 4) = false := beq_eq_false_iff_ne.2 (by have := HK4.o rfl; omega)
          by_cases h3 : kd = 3
          · have hk3 : ((kd : Int) == 3) = true := beq_int_true h3
            obtain ⟨h45a, h45b⟩ := HI5.o h3
            have y0 : (((s[i]'h45a).toNat : Nat) : Int) = 45 := by rw [← byt_eq s i h45a, h45b]; rfl
            have lo : i + 1 ≤ r0 := by simpa [bodyAt, h3] using a6
            have HLD : Hq (∀ j, i + 1 ≤ j → j < r0 → byt s j = 32) := hq (by simpa [bodyAt, h3] using HL9.o)
            clear h3 a6 HL9
            go_upto_region 25 with fail
            have u1 : ¬ (r0 : Int) < ((i : Int) + 1) := by omega
            have u2 : ¬ (r1 : Int) < (r0 : Int) := by omega
            have u3 : ¬ (s.size : Int) < (r1 : Int) := by omega
            go_upto_region 27 with fail
            go_wp2_with fail
            go_loop [11] (fun v => ∃ j : Nat, (i + 1) ≤ j ∧ j ≤ r0 ∧ v = .int .i64 (j : Int)) (fun v => r0 - (intOf v).toNat)
            case atStart => exact ⟨(i + 1), Nat.le_refl _, lo, int_eq (by omega)⟩
            case round =>
              obtain ⟨j, hj1, hj2, rfl⟩ := hrel
              by_cases hjr : j < r0
              · have hjs : j < s.size := by omega
                have y1 : (((s[j]'hjs).toNat : Nat) : Int) = 32 := by rw [← byt_eq s j hjs, HLD.o j hj1 hjr]; rfl
                go_wp2_with fail
                go_round
                case rel => exact ⟨j + 1, by omega, by omega, int_eq (by omega)⟩
                case measure => simp [intOf]; omega
              · have hjr' : ¬ (j : Int) < (r0 : Int) := by omega
                cases no with
                | none =>
                  obtain rfl : n0 = 0 := HN0.o
                  obtain rfl : n1 = 0 := HN1.o
                  have E3 : ∀ W : World, (Op.equalIn 10000 23 (.agg #[.int .i64 0, .int .i64 0]) (.agg #[.int .i64 0, .int .i64 0])).run Tryd.prog W = .ok true W := fun W => by rw [eq_span]; rfl
                  have HT3 : Hq (∀ q, r1 ≤ q → q < s.size → byt s q = 32) := hq (HN11.o rfl)
                  go_wp2_with fail
                  go_loop [13] (fun v => ∃ q : Nat, r1 ≤ q ∧ q ≤ s.size ∧ v = .int .i64 (q : Int)) (fun v => s.size - (intOf v).toNat)
                  case atStart => exact ⟨r1, Nat.le_refl _, by omega, rfl⟩
                  case round =>
                    obtain ⟨q, hq1, hq2, rfl⟩ := hrel
                    by_cases hqe : q < s.size
                    · have hqs : q < s.size := by omega
                      have y2 : (((s[q]'hqs).toNat : Nat) : Int) = 32 := by rw [← byt_eq s q hqs, HT3.o q hq1 hqe]; rfl
                      go_wp2_with fail
                      go_round
                      case rel => exact ⟨q + 1, by omega, by omega, int_eq (by omega)⟩
                      case measure => simp [intOf]; omega
                    · have hqe' : ¬ (q : Int) < (s.size : Int) := by omega
                      by_cases hre : r0 = r1
                      · have v1 : ((r0 : Int) == (r1 : Int)) = true := beq_int_true hre
                        go_wp2_with fail
                        go_ret
                        exact ⟨rfl, HBW.o⟩
                      · have v1 : ((r0 : Int) == (r1 : Int)) = false := beq_int_false hre
                        have hr0 : r0 < s.size := by omega
                        have hr1 : r1 - 1 < s.size := by omega
                        obtain ⟨z1, z2⟩ := HE12.o (by omega)
                        have y3 : (((s[r0]'hr0).toNat : Nat) : Int) = (byt s r0 : Int) := by rw [byt_eq s r0 hr0]
                        have y4 : (((s[r1 - 1]'hr1).toNat : Nat) : Int) = (byt s (r1 - 1) : Int) := by rw [byt_eq s (r1 - 1) hr1]
                        have hzz : ((r1 : Int) - 1).toNat = r1 - 1 := by omega
                        have v2 : ((byt s r0 : Int) != 32) = true := bne_iff_ne.2 (by omega)
                        have v3 : ((byt s (r1 - 1) : Int) != 32) = true := bne_iff_ne.2 (by omega)
                        clear z1 z2
                        generalize byt s r0 = b0 at *
                        generalize byt s (r1 - 1) = b1 at *
                        go_wp2_with fail
                        go_ret
                        exact ⟨rfl, HBW.o⟩
                | some c =>
                  obtain rfl : n0 = (c : Int) := HN0.o
                  obtain rfl : n1 = (s.size : Int) := HN1.o
                  obtain ⟨l1, l2, l3, l4⟩ := HN10.o c rfl
                  have E3 : ∀ W : World, (Op.equalIn 10000 23 (.agg #[.int .i64 (c : Int), .int .i64 (s.size : Int)]) (.agg #[.int .i64 0, .int .i64 0])).run Tryd.prog W = .ok false W := fun W => by rw [eq_span, show ((s.size : Int) == 0) = false from beq_eq_false_iff_ne.2 (by omega), Bool.and_false]
                  have HT3 : Hq (∀ q, r1 ≤ q → q < c → byt s q = 32) := hq l4
                  have y5 : (((s[c]'l2).toNat : Nat) : Int) = 35 := by rw [← byt_eq s c l2, l3]; rfl
                  have u4 : ¬ (c : Int) < (r1 : Int) := by omega
                  have u5 : ((s.size : Int) != (s.size : Int)) = false := by simp
                  have u6 : ¬ (s.size : Int) ≤ (c : Int) := by omega
                  clear l3 l4
                  go_wp2_with fail
                  go_loop [13] (fun v => ∃ q : Nat, r1 ≤ q ∧ q ≤ c ∧ v = .int .i64 (q : Int)) (fun v => c - (intOf v).toNat)
                  case atStart => exact ⟨r1, Nat.le_refl _, by omega, rfl⟩
                  case round =>
                    obtain ⟨q, hq1, hq2, rfl⟩ := hrel
                    by_cases hqe : q < c
                    · have hqs : q < s.size := by omega
                      have y2 : (((s[q]'hqs).toNat : Nat) : Int) = 32 := by rw [← byt_eq s q hqs, HT3.o q hq1 hqe]; rfl
                      go_wp2_with fail
                      go_round
                      case rel => exact ⟨q + 1, by omega, by omega, int_eq (by omega)⟩
                      case measure => simp [intOf]; omega
                    · have hqe' : ¬ (q : Int) < (c : Int) := by omega
                      by_cases hre : r0 = r1
                      · have v1 : ((r0 : Int) == (r1 : Int)) = true := beq_int_true hre
                        go_wp2_with fail
                        go_ret
                        exact ⟨rfl, HBW.o⟩
                      · have v1 : ((r0 : Int) == (r1 : Int)) = false := beq_int_false hre
                        have hr0 : r0 < s.size := by omega
                        have hr1 : r1 - 1 < s.size := by omega
                        obtain ⟨z1, z2⟩ := HE12.o (by omega)
                        have y3 : (((s[r0]'hr0).toNat : Nat) : Int) = (byt s r0 : Int) := by rw [byt_eq s r0 hr0]
                        have y4 : (((s[r1 - 1]'hr1).toNat : Nat) : Int) = (byt s (r1 - 1) : Int) := by rw [byt_eq s (r1 - 1) hr1]
                        have hzz : ((r1 : Int) - 1).toNat = r1 - 1 := by omega
                        have v2 : ((byt s r0 : Int) != 32) = true := bne_iff_ne.2 (by omega)
                        have v3 : ((byt s (r1 - 1) : Int) != 32) = true := bne_iff_ne.2 (by omega)
                        clear z1 z2
                        generalize byt s r0 = b0 at *
                        generalize byt s (r1 - 1) = b1 at *
                        go_wp2_with fail
                        go_ret
                        exact ⟨rfl, HBW.o⟩
          · have hk3 : ((kd : Int) == 3) = false := beq_int_false h3
            have lo : i ≤ r0 := by simpa [bodyAt, h3] using a6
            have HLD : Hq (∀ j, i ≤ j → j < r0 → byt s j = 32) := hq (by simpa [bodyAt, h3] using HL9.o)
            clear h3 a6 HL9
            go_upto_region 25 with fail
            have u1 : ¬ (r0 : Int) < (i : Int) := by omega
            have u2 : ¬ (r1 : Int) < (r0 : Int) := by omega
            have u3 : ¬ (s.size : Int) < (r1 : Int) := by omega
            go_upto_region 27 with fail
            go_wp2_with fail
            go_loop [11] (fun v => ∃ j : Nat, i ≤ j ∧ j ≤ r0 ∧ v = .int .i64 (j : Int)) (fun v => r0 - (intOf v).toNat)
            case atStart => exact ⟨i, Nat.le_refl _, lo, int_eq (by omega)⟩
            case round =>
              obtain ⟨j, hj1, hj2, rfl⟩ := hrel
              by_cases hjr : j < r0
              · have hjs : j < s.size := by omega
                have y1 : (((s[j]'hjs).toNat : Nat) : Int) = 32 := by rw [← byt_eq s j hjs, HLD.o j hj1 hjr]; rfl
                go_wp2_with fail
                go_round
                case rel => exact ⟨j + 1, by omega, by omega, int_eq (by omega)⟩
                case measure => simp [intOf]; omega
              · have hjr' : ¬ (j : Int) < (r0 : Int) := by omega
                cases no with
                | none =>
                  obtain rfl : n0 = 0 := HN0.o
                  obtain rfl : n1 = 0 := HN1.o
                  have E3 : ∀ W : World, (Op.equalIn 10000 23 (.agg #[.int .i64 0, .int .i64 0]) (.agg #[.int .i64 0, .int .i64 0])).run Tryd.prog W = .ok true W := fun W => by rw [eq_span]; rfl
                  have HT3 : Hq (∀ q, r1 ≤ q → q < s.size → byt s q = 32) := hq (HN11.o rfl)
                  go_wp2_with fail
                  go_loop [13] (fun v => ∃ q : Nat, r1 ≤ q ∧ q ≤ s.size ∧ v = .int .i64 (q : Int)) (fun v => s.size - (intOf v).toNat)
                  case atStart => exact ⟨r1, Nat.le_refl _, by omega, rfl⟩
                  case round =>
                    obtain ⟨q, hq1, hq2, rfl⟩ := hrel
                    by_cases hqe : q < s.size
                    · have hqs : q < s.size := by omega
                      have y2 : (((s[q]'hqs).toNat : Nat) : Int) = 32 := by rw [← byt_eq s q hqs, HT3.o q hq1 hqe]; rfl
                      go_wp2_with fail
                      go_round
                      case rel => exact ⟨q + 1, by omega, by omega, int_eq (by omega)⟩
                      case measure => simp [intOf]; omega
                    · have hqe' : ¬ (q : Int) < (s.size : Int) := by omega
                      by_cases hre : r0 = r1
                      · have v1 : ((r0 : Int) == (r1 : Int)) = true := beq_int_true hre
                        go_wp2_with fail
                        go_ret
                        exact ⟨rfl, HBW.o⟩
                      · have v1 : ((r0 : Int) == (r1 : Int)) = false := beq_int_false hre
                        have hr0 : r0 < s.size := by omega
                        have hr1 : r1 - 1 < s.size := by omega
                        obtain ⟨z1, z2⟩ := HE12.o (by omega)
                        have y3 : (((s[r0]'hr0).toNat : Nat) : Int) = (byt s r0 : Int) := by rw [byt_eq s r0 hr0]
                        have y4 : (((s[r1 - 1]'hr1).toNat : Nat) : Int) = (byt s (r1 - 1) : Int) := by rw [byt_eq s (r1 - 1) hr1]
                        have hzz : ((r1 : Int) - 1).toNat = r1 - 1 := by omega
                        have v2 : ((byt s r0 : Int) != 32) = true := bne_iff_ne.2 (by omega)
                        have v3 : ((byt s (r1 - 1) : Int) != 32) = true := bne_iff_ne.2 (by omega)
                        clear z1 z2
                        generalize byt s r0 = b0 at *
                        generalize byt s (r1 - 1) = b1 at *
                        go_wp2_with fail
                        go_ret
                        exact ⟨rfl, HBW.o⟩
                | some c =>
                  obtain rfl : n0 = (c : Int) := HN0.o
                  obtain rfl : n1 = (s.size : Int) := HN1.o
                  obtain ⟨l1, l2, l3, l4⟩ := HN10.o c rfl
                  have E3 : ∀ W : World, (Op.equalIn 10000 23 (.agg #[.int .i64 (c : Int), .int .i64 (s.size : Int)]) (.agg #[.int .i64 0, .int .i64 0])).run Tryd.prog W = .ok false W := fun W => by rw [eq_span, show ((s.size : Int) == 0) = false from beq_eq_false_iff_ne.2 (by omega), Bool.and_false]
                  have HT3 : Hq (∀ q, r1 ≤ q → q < c → byt s q = 32) := hq l4
                  have y5 : (((s[c]'l2).toNat : Nat) : Int) = 35 := by rw [← byt_eq s c l2, l3]; rfl
                  have u4 : ¬ (c : Int) < (r1 : Int) := by omega
                  have u5 : ((s.size : Int) != (s.size : Int)) = false := by simp
                  have u6 : ¬ (s.size : Int) ≤ (c : Int) := by omega
                  clear l3 l4
                  go_wp2_with fail
                  go_loop [13] (fun v => ∃ q : Nat, r1 ≤ q ∧ q ≤ c ∧ v = .int .i64 (q : Int)) (fun v => c - (intOf v).toNat)
                  case atStart => exact ⟨r1, Nat.le_refl _, by omega, rfl⟩
                  case round =>
                    obtain ⟨q, hq1, hq2, rfl⟩ := hrel
                    by_cases hqe : q < c
                    · have hqs : q < s.size := by omega
                      have y2 : (((s[q]'hqs).toNat : Nat) : Int) = 32 := by rw [← byt_eq s q hqs, HT3.o q hq1 hqe]; rfl
                      go_wp2_with fail
                      go_round
                      case rel => exact ⟨q + 1, by omega, by omega, int_eq (by omega)⟩
                      case measure => simp [intOf]; omega
                    · have hqe' : ¬ (q : Int) < (c : Int) := by omega
                      by_cases hre : r0 = r1
                      · have v1 : ((r0 : Int) == (r1 : Int)) = true := beq_int_true hre
                        go_wp2_with fail
                        go_ret
                        exact ⟨rfl, HBW.o⟩
                      · have v1 : ((r0 : Int) == (r1 : Int)) = false := beq_int_false hre
                        have hr0 : r0 < s.size := by omega
                        have hr1 : r1 - 1 < s.size := by omega
                        obtain ⟨z1, z2⟩ := HE12.o (by omega)
                        have y3 : (((s[r0]'hr0).toNat : Nat) : Int) = (byt s r0 : Int) := by rw [byt_eq s r0 hr0]
                        have y4 : (((s[r1 - 1]'hr1).toNat : Nat) : Int) = (byt s (r1 - 1) : Int) := by rw [byt_eq s (r1 - 1) hr1]
                        have hzz : ((r1 : Int) - 1).toNat = r1 - 1 := by omega
                        have v2 : ((byt s r0 : Int) != 32) = true := bne_iff_ne.2 (by omega)
                        have v3 : ((byt s (r1 - 1) : Int) != 32) = true := bne_iff_ne.2 (by omega)
                        clear z1 z2
                        generalize byt s r0 = b0 at *
                        generalize byt s (r1 - 1) = b1 at *
                        go_wp2_with fail
                        go_ret
                        exact ⟨rfl, HBW.o⟩
        | some e =>
          obtain rfl : k0 = (i : Int) := HK0.o
          obtain rfl : k1 = (e : Int) := HK1.o
          obtain ⟨rfl, g1, g2, g3⟩ := HK3.o e rfl
          have y0 : (((s[e]'g2).toNat : Nat) : Int) = 58 := by rw [← byt_eq s e g2, g3]; rfl
          have lo : e + 1 ≤ r0 := a6
          have HLD : Hq (∀ j, e + 1 ≤ j → j < r0 → byt s j = 32) := hq HL9.o
          clear g3 a6 HL9
          go_upto_region 25 with fail
          have u1 : ¬ (r0 : Int) < ((e : Int) + 1) := by omega
          have u2 : ¬ (r1 : Int) < (r0 : Int) := by omega
          have u3 : ¬ (s.size : Int) < (r1 : Int) := by omega
          go_upto_region 27 with fail
          go_wp2_with fail
          go_loop [11] (fun v => ∃ j : Nat, (e + 1) ≤ j ∧ j ≤ r0 ∧ v = .int .i64 (j : Int)) (fun v => r0 - (intOf v).toNat)
          case atStart => exact ⟨(e + 1), Nat.le_refl _, lo, int_eq (by omega)⟩
          case round =>
            obtain ⟨j, hj1, hj2, rfl⟩ := hrel
            by_cases hjr : j < r0
            · have hjs : j < s.size := by omega
              have y1 : (((s[j]'hjs).toNat : Nat) : Int) = 32 := by rw [← byt_eq s j hjs, HLD.o j hj1 hjr]; rfl
              go_wp2_with fail
              go_round
              case rel => exact ⟨j + 1, by omega, by omega, int_eq (by omega)⟩
              case measure => simp [intOf]; omega
            · have hjr' : ¬ (j : Int) < (r0 : Int) := by omega
              cases no with
              | none =>
                obtain rfl : n0 = 0 := HN0.o
                obtain rfl : n1 = 0 := HN1.o
                have E3 : ∀ W : World, (Op.equalIn 10000 23 (.agg #[.int .i64 0, .int .i64 0]) (.agg #[.int .i64 0, .int .i64 0])).run Tryd.prog W = .ok true W := fun W => by rw [eq_span]; rfl
                have HT3 : Hq (∀ q, r1 ≤ q → q < s.size → byt s q = 32) := hq (HN11.o rfl)
                go_wp2_with fail
                go_loop [13] (fun v => ∃ q : Nat, r1 ≤ q ∧ q ≤ s.size ∧ v = .int .i64 (q : Int)) (fun v => s.size - (intOf v).toNat)
                case atStart => exact ⟨r1, Nat.le_refl _, by omega, rfl⟩
                case round =>
                  obtain ⟨q, hq1, hq2, rfl⟩ := hrel
                  by_cases hqe : q < s.size
                  · have hqs : q < s.size := by omega
                    have y2 : (((s[q]'hqs).toNat : Nat) : Int) = 32 := by rw [← byt_eq s q hqs, HT3.o q hq1 hqe]; rfl
                    go_wp2_with fail
                    go_round
                    case rel => exact ⟨q + 1, by omega, by omega, int_eq (by omega)⟩
                    case measure => simp [intOf]; omega
                  · have hqe' : ¬ (q : Int) < (s.size : Int) := by omega
                    by_cases hre : r0 = r1
                    · have v1 : ((r0 : Int) == (r1 : Int)) = true := beq_int_true hre
                      go_wp2_with fail
                      go_ret
                      exact ⟨rfl, HBW.o⟩
                    · have v1 : ((r0 : Int) == (r1 : Int)) = false := beq_int_false hre
                      have hr0 : r0 < s.size := by omega
                      have hr1 : r1 - 1 < s.size := by omega
                      obtain ⟨z1, z2⟩ := HE12.o (by omega)
                      have y3 : (((s[r0]'hr0).toNat : Nat) : Int) = (byt s r0 : Int) := by rw [byt_eq s r0 hr0]
                      have y4 : (((s[r1 - 1]'hr1).toNat : Nat) : Int) = (byt s (r1 - 1) : Int) := by rw [byt_eq s (r1 - 1) hr1]
                      have hzz : ((r1 : Int) - 1).toNat = r1 - 1 := by omega
                      have v2 : ((byt s r0 : Int) != 32) = true := bne_iff_ne.2 (by omega)
                      have v3 : ((byt s (r1 - 1) : Int) != 32) = true := bne_iff_ne.2 (by omega)
                      clear z1 z2
                      generalize byt s r0 = b0 at *
                      generalize byt s (r1 - 1) = b1 at *
                      go_wp2_with fail
                      go_ret
                      exact ⟨rfl, HBW.o⟩
              | some c =>
                obtain rfl : n0 = (c : Int) := HN0.o
                obtain rfl : n1 = (s.size : Int) := HN1.o
                obtain ⟨l1, l2, l3, l4⟩ := HN10.o c rfl
                have E3 : ∀ W : World, (Op.equalIn 10000 23 (.agg #[.int .i64 (c : Int), .int .i64 (s.size : Int)]) (.agg #[.int .i64 0, .int .i64 0])).run Tryd.prog W = .ok false W := fun W => by rw [eq_span, show ((s.size : Int) == 0) = false from beq_eq_false_iff_ne.2 (by omega), Bool.and_false]
                have HT3 : Hq (∀ q, r1 ≤ q → q < c → byt s q = 32) := hq l4
                have y5 : (((s[c]'l2).toNat : Nat) : Int) = 35 := by rw [← byt_eq s c l2, l3]; rfl
                have u4 : ¬ (c : Int) < (r1 : Int) := by omega
                have u5 : ((s.size : Int) != (s.size : Int)) = false := by simp
                have u6 : ¬ (s.size : Int) ≤ (c : Int) := by omega
                clear l3 l4
                go_wp2_with fail
                go_loop [13] (fun v => ∃ q : Nat, r1 ≤ q ∧ q ≤ c ∧ v = .int .i64 (q : Int)) (fun v => c - (intOf v).toNat)
                case atStart => exact ⟨r1, Nat.le_refl _, by omega, rfl⟩
                case round =>
                  obtain ⟨q, hq1, hq2, rfl⟩ := hrel
                  by_cases hqe : q < c
                  · have hqs : q < s.size := by omega
                    have y2 : (((s[q]'hqs).toNat : Nat) : Int) = 32 := by rw [← byt_eq s q hqs, HT3.o q hq1 hqe]; rfl
                    go_wp2_with fail
                    go_round
                    case rel => exact ⟨q + 1, by omega, by omega, int_eq (by omega)⟩
                    case measure => simp [intOf]; omega
                  · have hqe' : ¬ (q : Int) < (c : Int) := by omega
                    by_cases hre : r0 = r1
                    · have v1 : ((r0 : Int) == (r1 : Int)) = true := beq_int_true hre
                      go_wp2_with fail
                      go_ret
                      exact ⟨rfl, HBW.o⟩
                    · have v1 : ((r0 : Int) == (r1 : Int)) = false := beq_int_false hre
                      have hr0 : r0 < s.size := by omega
                      have hr1 : r1 - 1 < s.size := by omega
                      obtain ⟨z1, z2⟩ := HE12.o (by omega)
                      have y3 : (((s[r0]'hr0).toNat : Nat) : Int) = (byt s r0 : Int) := by rw [byt_eq s r0 hr0]
                      have y4 : (((s[r1 - 1]'hr1).toNat : Nat) : Int) = (byt s (r1 - 1) : Int) := by rw [byt_eq s (r1 - 1) hr1]
                      have hzz : ((r1 : Int) - 1).toNat = r1 - 1 := by omega
                      have v2 : ((byt s r0 : Int) != 32) = true := bne_iff_ne.2 (by omega)
                      have v3 : ((byt s (r1 - 1) : Int) != 32) = true := bne_iff_ne.2 (by omega)
                      clear z1 z2
                      generalize byt s r0 = b0 at *
                      generalize byt s (r1 - 1) = b1 at *
                      go_wp2_with fail
                      go_ret
                      exact ⟨rfl, HBW.o⟩
end Go.Proofs.YtekihjffefokjaaDoor
