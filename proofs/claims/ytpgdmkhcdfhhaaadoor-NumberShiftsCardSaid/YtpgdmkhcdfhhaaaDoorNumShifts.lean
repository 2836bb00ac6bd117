/-
  WALK: the law NumberShifts.
-/
import Derived.Test.YtpgdmkhcdfhhaaaDoorNumShiftM
import Derived.Test.YtpgdmkhcdfhhaaaDoorNumDec
import Derived.Test.YtpgdmkhcdfhhaaaDoorNumSmall
import Derived.Test.YtpgdmkhcdfhhaaaDoorNumEq
import Derived.Deep.LoopGhost
import Derived.Deep.CutRange
namespace Go.Proofs.YtpgdmkhcdfhhaaaDoor
open Go.RowKit

/-- a number that lies in a block -/
abbrev NumIn (W : World) (g : Nat) (d : Dec) : Prop := Whole W g 23 #[.bool d.neg, .string (st d.digits), .int .i64 d.exp]
/-- what the six texts are: of one nought, and of digits that begin with none -/
def FourOk (z : Bool) (a b c d : Dec × Int) : Prop :=
  if z = true then a = (.zero, 0) ∧ b = (.zero, 0) ∧ c = (.zero, 0) ∧ d = (.zero, 2) else a.2 = 0 ∧ b = a ∧ c = a ∧ d = a
def TwoOk (z : Bool) (x y : Dec × Int) : Prop :=
  if z = true then x = (.zero, 0) ∧ y = (.zero, 2) else x.2 = 0 ∧ y = x
theorem four_ok (l : Bs) (z : Bool) (h0 : l ≠ []) (hd : l.all isDig = true) (hl : l.length ≤ 400) (hz : z = true → l = [48]) (hn : z = false → l.head? ≠ some 48) :
    FourOk z (parseM l) (parseM (l ++ [46, 48, 48, 48])) (parseM (([48, 46] ++ l ++ [101]) ++ Lib.itoa (l.length : Int))) (parseM (l ++ [48, 48, 48, 101, 45, 51])) := by
  unfold FourOk
  cases z with
  | true =>
    obtain rfl := hz rfl
    obtain ⟨a, b, c, d, _, _⟩ := shifts0 0 (by omega)
    rw [if_pos rfl]
    exact ⟨a, b, c, d⟩
  | false =>
    obtain ⟨S, E, _, a, b, c, d, _, _⟩ := shifts l 0 h0 hd (hn rfl) hl (by omega)
    rw [if_neg (by simp), a, b, c, d]
    exact ⟨rfl, rfl, rfl, rfl⟩
theorem two_ok (l : Bs) (i : Nat) (z : Bool) (h0 : l ≠ []) (hd : l.all isDig = true) (hl : l.length ≤ 400) (hz : z = true → l = [48]) (hn : z = false → l.head? ≠ some 48) (hi : i ≤ 255) :
    TwoOk z (parseM ((l ++ [69, 43]) ++ Lib.itoa (i : Int))) (parseM ((l ++ [48, 101]) ++ Lib.itoa ((i : Int) - 1))) := by
  unfold TwoOk
  cases z with
  | true =>
    obtain rfl := hz rfl
    obtain ⟨_, _, _, _, x, y⟩ := shifts0 i hi
    rw [if_pos rfl]
    exact ⟨x, y⟩
  | false =>
    obtain ⟨S, E, E2, _, _, _, _, x, y⟩ := shifts l i h0 hd (hn rfl) hl hi
    rw [if_neg (by simp), x, y]
    exact ⟨rfl, rfl⟩
def badShift : Bs → Bool
  | [] => true
  | c :: r => decide (400 < r.length + 1) || (decide (1 < r.length + 1) && ((c.toNat : Int) == 48))
theorem badShift_no {l : Bs} (h : badShift l = false) : l ≠ [] ∧ l.length ≤ 400 ∧ ∃ z : Bool, (z = true → l = [48]) ∧ (z = false → l.head? ≠ some 48) ∧ (z = true ↔ l = [48]) := by
  cases l with
  | nil => cases h
  | cons c r =>
    have h : (decide (400 < r.length + 1) || (decide (1 < r.length + 1) && ((c.toNat : Int) == 48))) = false := h
    simp only [Bool.or_eq_false_iff, Bool.and_eq_false_iff, decide_eq_false_iff_not] at h
    refine ⟨by simp, by rw [List.length_cons]; omega, ?_⟩
    by_cases h48 : c = 48
    · subst h48
      have hr : r = [] := by
        rcases h.2 with h | h
        · exact List.eq_nil_of_length_eq_zero (by omega)
        · simp at h
      subst hr
      exact ⟨true, fun _ => rfl, fun h => by (cases h), fun _ => rfl, fun _ => rfl⟩
    · refine ⟨false, fun h => by (cases h), fun _ => by simpa using h48, fun h => by (cases h), fun h1 => ?_⟩
      injection h1 with h1
      exact absurd h1 h48
theorem parse_st (l : Bs) (R : Dec × Int) (h : parseM l = R) (W : World) (hl : l.length ≤ 1099511627776) : Calls Tryd.prog 24 #[.string (st l)] W (ParsePost R W) := by
  have := parse_any (st l) W (by rw [st_size]; exact hl)
  rw [st_list, h] at this
  exact this
theorem and255 (k : Int) : ∃ i : Nat, i ≤ 255 ∧ bits .and .i64 k 255 = (i : Int) := by
  refine ⟨(BitVec.ofInt 64 k).toNat &&& 255, Nat.and_le_right, ?_⟩
  show IntKind.i64.wrap (((BitVec.ofInt 64 k &&& BitVec.ofInt 64 255).toNat : Nat) : Int) = _
  rw [BitVec.toNat_and, show (BitVec.ofInt 64 255).toNat = 255 by decide]
  have h : (BitVec.ofInt 64 k).toNat &&& 255 ≤ 255 := Nat.and_le_right
  exact IntWalk.i64_in _ (by omega)
theorem itoa_short (n : Int) (h0 : -9223372036854775808 ≤ n) (h1 : n ≤ 9223372036854775807) : (Lib.itoa n).length ≤ 21 := Lib.itoa_length_le n (by omega) (by omega)

set_option maxHeartbeats 4000000 in
set_option maxRecDepth 1000000 in
theorem numberShifts (l : Bs) (k : Int) (w : World) (hl : l.length ≤ 9223372036854775807) (_ : -9223372036854775808 ≤ k ∧ k ≤ 9223372036854775807) :
    Calls Tryd.prog 8 #[.string (st l), .int .i64 k] w fun e w' => e = .returned (.bool true) ∧ Below w.heap.size w w' := by
  go_enter Tryd.func8, Tryd.ntmps8
  go_wp2_with fail
  refine (small_any _).mono ?_
  rintro e w1 ⟨rfl, hb⟩
  go_wp2_with fail
  go_loopg [6] l.length (fun g a wx => ∃ j : Nat, a = .int .i64 j ∧ j + g = l.length ∧ Hq ((l.take j).all isDig = true) ∧ wx = w1)
  case atStart => exact ⟨0, rfl, by omega, hq rfl, rfl⟩
  case round =>
    obtain ⟨j, rfl, hj, hd, rfl⟩ := hrel
    by_cases hlt : j < l.length
    · have hz : j < (st l).size := by rw [st_size]; exact hlt
      have hstep : Hq (48 ≤ ((st l)[j]'hz).toNat → ((st l)[j]'hz).toNat ≤ 57 → (l.take (j + 1)).all isDig = true) := hq (fun h1 h2 =>
        take_all_succ hd.o hlt (by unfold isDig; rw [Bool.and_eq_true, decide_eq_true_eq, decide_eq_true_eq]; exact ⟨h1, h2⟩))
      generalize hx : ((st l)[j]'hz).toNat = x at hstep
      have hy : (((st l)[j]'hz).toNat : Int) = (x : Int) := by rw [hx]
      clear hx
      by_cases g1 : 48 ≤ x
      · by_cases g2 : x ≤ 57
        · have hnext := hq (hstep.o g1 g2)
          clear hstep hd
          go_wp2_with fail
          go_roundg (gk - 1)
          case rel => exact ⟨j + 1, rfl, by omega, hnext, rfl⟩
          case measure => omega
        · clear hstep hd
          go_wp2_with fail
          go_ret
          exact ⟨rfl, hb⟩
      · clear hstep hd
        go_wp2_with fail
        go_ret
        exact ⟨rfl, hb⟩
    · obtain rfl : j = l.length := by omega
      have HD : Hq (l.all isDig = true) := hq (by have := hd.o; rwa [List.take_length] at this)
      clear hd
      go_upto_region 7 with fail
      go_cut [55] (fun c wx => c = .bool (badShift l) ∧ wx = wr)
      case first =>
        cases l with
        | nil =>
          go_wp2_with fail
          go_meet
          exact ⟨rfl, rfl⟩
        | cons c r =>
          have hy0 : (((st (c :: r))[0]'(by rw [st_size]; simp)).toNat : Int) = (c.toNat : Int) := rfl
          have HBS : Hq (badShift (c :: r) = (decide (400 < r.length + 1) || (decide (1 < r.length + 1) && ((c.toNat : Int) == 48)))) := hq rfl
          simp only [List.length_cons] at hj hl
          clear HD hlt
          have q0 : ((r.length : Int) + 1 == 0) = false := beq_eq_false_iff_ne.2 (by omega)
          by_cases h400 : 400 < r.length + 1
          · have HN : Hq (badShift (c :: r) = true) := hq (by rw [HBS.o, decide_eq_true h400]; rfl)
            clear HBS
            go_wp2_with fail
            go_meet
            exact ⟨congrArg Value.bool HN.o.symm, rfl⟩
          · have q1 : decide (400 < (r.length : Int) + 1) = false := decide_eq_false (by omega)
            by_cases h1 : 1 < r.length + 1
            · have HN : Hq (badShift (c :: r) = ((c.toNat : Int) == 48)) := hq (by rw [HBS.o, decide_eq_false h400, decide_eq_true h1]; rfl)
              clear HBS
              go_wp2_with fail
              go_meet
              exact ⟨congrArg Value.bool HN.o.symm, rfl⟩
            · have HN : Hq (badShift (c :: r) = false) := hq (by rw [HBS.o, decide_eq_false h400, decide_eq_false h1]; rfl)
              clear HBS
              go_wp2_with fail
              go_meet
              exact ⟨congrArg Value.bool HN.o.symm, rfl⟩
      case rest =>
        obtain ⟨rfl, rfl⟩ := hcut
        have HBN := hq (@badShift_no l)
        generalize badShift l = bs at *
        cases bs with
        | true =>
          go_wp2_with fail
          go_ret
          exact ⟨rfl, hb⟩
        | false =>
            obtain ⟨h0, h400, z, hz1, hz2, hz3⟩ := HBN.o (by trivial)
            clear HBN
            have HN0 := hq h0
            clear h0
            have h4 := four_ok l z HN0.o HD.o (by omega) hz1 hz2
            have h2 : ∀ i : Nat, i ≤ 255 → _ := fun i hi => two_ok l i z HN0.o HD.o (by omega) hz1 hz2 hi
            have i1 := itoa_short (l.length : Int) (by omega) (by omega)
            have p1 := fun W => parse_st l _ rfl W (by omega)
            have p2 := fun W => parse_st (l ++ [46, 48, 48, 48]) _ rfl W (by rw [List.length_append]; simp; omega)
            have p3 := fun W => parse_st (([48, 46] ++ l ++ [101]) ++ Lib.itoa (l.length : Int)) _ rfl W (by simp only [List.length_append, List.length_cons, List.length_nil]; omega)
            have p4 := fun W => parse_st (l ++ [48, 48, 48, 101, 45, 51]) _ rfl W (by rw [List.length_append]; simp; omega)
            have dc1 := fun W => rdecimal_any (l.length : Int) W (by omega) (by omega)
            have HDC1 := hq dc1
            have HZ3 := hq hz3
            have H2 := hq h2
            clear h2 hz1 hz2 hz3 dc1
            generalize parseM l = R1 at *
            generalize parseM (l ++ [46, 48, 48, 48]) = R2 at *
            generalize parseM (([48, 46] ++ l ++ [101]) ++ Lib.itoa (l.length : Int)) = R3 at *
            generalize parseM (l ++ [48, 48, 48, 101, 45, 51]) = R4 at *
            have e2 : st l ++ ⟨#[46, 48, 48, 48]⟩ = st (l ++ [46, 48, 48, 48]) := cat_st l [46, 48, 48, 48]
            have e3 : ((⟨#[48, 46]⟩ ++ st l) ++ ⟨#[101]⟩) ++ st (Lib.itoa (l.length : Int)) = st (([48, 46] ++ l ++ [101]) ++ Lib.itoa (l.length : Int)) := by
              rw [show (⟨#[48, 46]⟩ : ByteArray) = st [48, 46] from rfl, show (⟨#[101]⟩ : ByteArray) = st [101] from rfl, cat_st, cat_st, cat_st]
            have e4 : st l ++ ⟨#[48, 48, 48, 101, 45, 51]⟩ = st (l ++ [48, 48, 48, 101, 45, 51]) := cat_st l [48, 48, 48, 101, 45, 51]
            rw [← e2] at p2
            rw [← e3] at p3
            rw [← e4] at p4
            obtain ⟨⟨n1, D1, E1⟩, x1⟩ := R1
            obtain ⟨⟨n2, D2, E2⟩, x2⟩ := R2
            obtain ⟨⟨n3, D3, E3⟩, x3⟩ := R3
            obtain ⟨⟨n4, D4, E4⟩, x4⟩ := R4
            have P1 := hq p1
            have P2 := hq p2
            have P3 := hq p3
            have P4 := hq p4
            have H4 := hq h4
            have hI1 : (st (Lib.itoa (l.length : Int))).size ≤ 21 := by rw [st_size]; exact i1
            clear p1 p2 p3 p4 h4 e2 e3 e4
            go_wp2_with fail
            refine (P1.o _).mono ?_
            rintro e v1 ⟨rfl, hb1⟩
            simp only [Dec.val]
            replace hb := below_trans hb hb1
            clear hb1
            have A1 := Whole.made v1 23 #[.bool n1, .string (st D1), .int .i64 E1]
            replace hb : Below w.heap.size w (v1.alloc (.cells #[.bool n1, .string (st D1), .int .i64 E1] 23)) := hb.alloc hb.size _
            go_wp2_with fail
            refine (P2.o _).mono ?_
            rintro e v2 ⟨rfl, hb1⟩
            simp only [Dec.val]
            replace hb := below_trans hb hb1
            replace A1 := A1.grow hb1
            clear hb1
            replace A1 := A1.alloc (.cells #[.bool n2, .string (st D2), .int .i64 E2] 23)
            have A2 := Whole.made v2 23 #[.bool n2, .string (st D2), .int .i64 E2]
            replace hb : Below w.heap.size w (v2.alloc (.cells #[.bool n2, .string (st D2), .int .i64 E2] 23)) := hb.alloc hb.size _
            go_wp2_with fail
            refine (HDC1.o _).mono ?_
            rintro e u1 ⟨rfl, hb1⟩
            replace hb := below_trans hb hb1
            replace A1 := A1.grow hb1
            replace A2 := A2.grow hb1
            clear hb1
            go_wp2_with fail
            refine (P3.o _).mono ?_
            rintro e v3 ⟨rfl, hb1⟩
            simp only [Dec.val]
            replace hb := below_trans hb hb1
            replace A1 := A1.grow hb1
            replace A2 := A2.grow hb1
            clear hb1
            replace A1 := A1.alloc (.cells #[.bool n3, .string (st D3), .int .i64 E3] 23)
            replace A2 := A2.alloc (.cells #[.bool n3, .string (st D3), .int .i64 E3] 23)
            have A3 := Whole.made v3 23 #[.bool n3, .string (st D3), .int .i64 E3]
            replace hb : Below w.heap.size w (v3.alloc (.cells #[.bool n3, .string (st D3), .int .i64 E3] 23)) := hb.alloc hb.size _
            go_wp2_with fail
            refine (P4.o _).mono ?_
            rintro e v4 ⟨rfl, hb1⟩
            simp only [Dec.val]
            replace hb := below_trans hb hb1
            replace A1 := A1.grow hb1
            replace A2 := A2.grow hb1
            replace A3 := A3.grow hb1
            clear hb1
            replace A1 := A1.alloc (.cells #[.bool n4, .string (st D4), .int .i64 E4] 23)
            replace A2 := A2.alloc (.cells #[.bool n4, .string (st D4), .int .i64 E4] 23)
            replace A3 := A3.alloc (.cells #[.bool n4, .string (st D4), .int .i64 E4] 23)
            have A4 := Whole.made v4 23 #[.bool n4, .string (st D4), .int .i64 E4]
            replace hb : Below w.heap.size w (v4.alloc (.cells #[.bool n4, .string (st D4), .int .i64 E4] 23)) := hb.alloc hb.size _
            go_upto_region 13 with fail
            generalize (v4.alloc (.cells #[.bool n4, .string (st D4), .int .i64 E4] 23)) = W4 at *
            go_cut [15] (fun v wx => (∃ i : Nat, i ≤ 255 ∧ v = .int .i64 i) ∧ wx = W4)
            case first =>
              go_wp2_with fail
              go_meet
              obtain ⟨i, h1, h2⟩ := and255 k
              exact ⟨⟨i, h1, int_eq h2⟩, rfl⟩
            case rest =>
              obtain ⟨⟨i, hi, rfl⟩, rfl⟩ := hcut
              have h2 := H2.o i hi
              have j1 := itoa_short (i : Int) (by omega) (by omega)
              have j2 := itoa_short ((i : Int) - 1) (by omega) (by omega)
              have p5 := fun W => parse_st ((l ++ [69, 43]) ++ Lib.itoa (i : Int)) _ rfl W (by simp only [List.length_append, List.length_cons, List.length_nil]; omega)
              have p6 := fun W => parse_st ((l ++ [48, 101]) ++ Lib.itoa ((i : Int) - 1)) _ rfl W (by simp only [List.length_append, List.length_cons, List.length_nil]; omega)
              have dc2 := fun W => rdecimal_any (i : Int) W (by omega) (by omega)
              have dc3 := fun W => rdecimal_any ((i : Int) - 1) W (by omega) (by omega)
              have HDC2 := hq dc2
              have HDC3 := hq dc3
              generalize parseM ((l ++ [69, 43]) ++ Lib.itoa (i : Int)) = R5 at *
              generalize parseM ((l ++ [48, 101]) ++ Lib.itoa ((i : Int) - 1)) = R6 at *
              have e5 : (st l ++ ⟨#[69, 43]⟩) ++ st (Lib.itoa (i : Int)) = st ((l ++ [69, 43]) ++ Lib.itoa (i : Int)) := by
                rw [show (⟨#[69, 43]⟩ : ByteArray) = st [69, 43] from rfl, cat_st, cat_st]
              have e6 : (st l ++ ⟨#[48, 101]⟩) ++ st (Lib.itoa ((i : Int) - 1)) = st ((l ++ [48, 101]) ++ Lib.itoa ((i : Int) - 1)) := by
                rw [show (⟨#[48, 101]⟩ : ByteArray) = st [48, 101] from rfl, cat_st, cat_st]
              rw [← e5] at p5
              rw [← e6] at p6
              obtain ⟨⟨n5, D5, E5⟩, x5⟩ := R5
              obtain ⟨⟨n6, D6, E6⟩, x6⟩ := R6
              have P5 := hq p5
              have P6 := hq p6
              have HT := hq h2
              have hJ1 : (st (Lib.itoa (i : Int))).size ≤ 21 := by rw [st_size]; exact j1
              have hJ2 : (st (Lib.itoa ((i : Int) - 1))).size ≤ 21 := by rw [st_size]; exact j2
              clear p5 p6 h2 e5 e6 dc2 dc3 H2 P1 P2 P3 P4
              go_wp2_with fail
              refine (HDC2.o _).mono ?_
              rintro e u2 ⟨rfl, hb1⟩
              replace hb := below_trans hb hb1
              replace A1 := A1.grow hb1
              replace A2 := A2.grow hb1
              replace A3 := A3.grow hb1
              replace A4 := A4.grow hb1
              clear hb1
              go_wp2_with fail
              refine (P5.o _).mono ?_
              rintro e v5 ⟨rfl, hb1⟩
              simp only [Dec.val]
              replace hb := below_trans hb hb1
              replace A1 := A1.grow hb1
              replace A2 := A2.grow hb1
              replace A3 := A3.grow hb1
              replace A4 := A4.grow hb1
              clear hb1
              replace A1 := A1.alloc (.cells #[.bool n5, .string (st D5), .int .i64 E5] 23)
              replace A2 := A2.alloc (.cells #[.bool n5, .string (st D5), .int .i64 E5] 23)
              replace A3 := A3.alloc (.cells #[.bool n5, .string (st D5), .int .i64 E5] 23)
              replace A4 := A4.alloc (.cells #[.bool n5, .string (st D5), .int .i64 E5] 23)
              have A5 := Whole.made v5 23 #[.bool n5, .string (st D5), .int .i64 E5]
              replace hb : Below w.heap.size w (v5.alloc (.cells #[.bool n5, .string (st D5), .int .i64 E5] 23)) := hb.alloc hb.size _
              go_wp2_with fail
              refine (HDC3.o _).mono ?_
              rintro e u3 ⟨rfl, hb1⟩
              replace hb := below_trans hb hb1
              replace A1 := A1.grow hb1
              replace A2 := A2.grow hb1
              replace A3 := A3.grow hb1
              replace A4 := A4.grow hb1
              replace A5 := A5.grow hb1
              clear hb1
              go_wp2_with fail
              refine (P6.o _).mono ?_
              rintro e v6 ⟨rfl, hb1⟩
              simp only [Dec.val]
              replace hb := below_trans hb hb1
              replace A1 := A1.grow hb1
              replace A2 := A2.grow hb1
              replace A3 := A3.grow hb1
              replace A4 := A4.grow hb1
              replace A5 := A5.grow hb1
              clear hb1
              replace A1 := A1.alloc (.cells #[.bool n6, .string (st D6), .int .i64 E6] 23)
              replace A2 := A2.alloc (.cells #[.bool n6, .string (st D6), .int .i64 E6] 23)
              replace A3 := A3.alloc (.cells #[.bool n6, .string (st D6), .int .i64 E6] 23)
              replace A4 := A4.alloc (.cells #[.bool n6, .string (st D6), .int .i64 E6] 23)
              replace A5 := A5.alloc (.cells #[.bool n6, .string (st D6), .int .i64 E6] 23)
              have A6 := Whole.made v6 23 #[.bool n6, .string (st D6), .int .i64 E6]
              replace hb : Below w.heap.size w (v6.alloc (.cells #[.bool n6, .string (st D6), .int .i64 E6] 23)) := hb.alloc hb.size _
              obtain ⟨a0, a1, a2⟩ := three_cells A1
              obtain ⟨b0, b1, b2⟩ := three_cells A2
              obtain ⟨c0, c1, c2⟩ := three_cells A3
              obtain ⟨d0, d1, d2⟩ := three_cells A4
              obtain ⟨f0, f1, f2⟩ := three_cells A5
              obtain ⟨g0, g1, g2⟩ := three_cells A6
              have h4 := H4.o
              have h2 := HT.o
              have h3 := HZ3.o
              clear H4 HT HZ3 P5 P6 HDC1 HDC2 HDC3
              unfold FourOk at h4
              unfold TwoOk at h2
              cases z with
              | true =>
                obtain rfl := h3.1 rfl
                rw [if_pos rfl] at h4 h2
                simp only [Prod.mk.injEq, Dec.zero, Dec.mk.injEq] at h4 h2
                obtain ⟨⟨⟨rfl, rfl, rfl⟩, rfl⟩, ⟨⟨rfl, rfl, rfl⟩, rfl⟩, ⟨⟨rfl, rfl, rfl⟩, rfl⟩, ⟨⟨rfl, rfl, rfl⟩, rfl⟩⟩ := h4
                obtain ⟨⟨⟨rfl, rfl, rfl⟩, rfl⟩, ⟨⟨rfl, rfl, rfl⟩, rfl⟩⟩ := h2
                have heq := eq_dec false [] 0 false [] 0
                rw [decide_eq_true rfl] at heq
                have heq2 := eq_num0 false [] 0
                rw [decide_eq_true ⟨rfl, rfl, rfl⟩] at heq2
                clear h3
                go_wp2_with fail
                go_ret
                exact ⟨rfl, hb⟩
              | false =>
                have hn : ¬ l = [48] := fun h => by have := h3.2 h; cases this
                rw [if_neg (by simp)] at h4 h2
                simp only [Prod.mk.injEq, Dec.mk.injEq] at h4 h2
                obtain ⟨rfl, ⟨⟨rfl, rfl, rfl⟩, rfl⟩, ⟨⟨rfl, rfl, rfl⟩, rfl⟩, ⟨⟨rfl, rfl, rfl⟩, rfl⟩⟩ := h4
                obtain ⟨rfl, ⟨⟨rfl, rfl, rfl⟩, rfl⟩⟩ := h2
                have heq := eq_dec n4 D4 E4 n4 D4 E4
                rw [decide_eq_true rfl] at heq
                have heq2 := eq_dec n6 D6 E6 n6 D6 E6
                rw [decide_eq_true rfl] at heq2
                have hn2 : (l == [48]) = false := beq_eq_false_iff_ne.2 hn
                clear h3
                go_wp2_with fail
                go_ret
                exact ⟨rfl, hb⟩
theorem numberShiftsB (s : ByteArray) (k : Int) (w : World) (hs : s.size ≤ maxLen) (hk : -9223372036854775808 ≤ k ∧ k ≤ 9223372036854775807) :
    Calls Tryd.prog 8 #[.string s, .int .i64 k] w fun e w' => e = .returned (.bool true) ∧ Below w.heap.size w w' := by
  have h := numberShifts s.data.toList k w (by rw [← size_list]; unfold maxLen at hs; omega) hk
  rwa [st_of] at h
end Go.Proofs.YtpgdmkhcdfhhaaaDoor
