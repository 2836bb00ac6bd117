/-
  WALKS: yline.sign, blanks, comment, broken, clean.
-/
import Derived.Test.YtekihjffefokjaaDoorYlM
import Derived.Test.YtekihjffefokjaaDoorRunesValid
namespace Go.Proofs.YtekihjffefokjaaDoor
open Go.RowKit

theorem beq_int_true {a b : Nat} (h : a = b) : ((a : Int) == (b : Int)) = true := by rw [h]; exact beq_self_eq_true _
theorem beq_int_false {a b : Nat} (h : a ≠ b) : ((a : Int) == (b : Int)) = false := beq_eq_false_iff_ne.2 (by omega)

set_option maxHeartbeats 1000000 in
set_option maxRecDepth 1000000 in
theorem ysign_any (s : ByteArray) (p c : Nat) (w : World) (hs : s.size ≤ 1099511627776) (hp : p ≤ s.size) :
    Calls Tryd.prog 38 #[.string s, .int .i64 (p : Int), .int .u8 (c : Int)] w fun e w' => e = .returned (.bool (sgn s p c)) ∧ w = w' := by
  have HS : Hq (sgn s p c = (decide (p < s.size) && (byt s p == c) && (decide (p + 1 = s.size) || byt s (p + 1) == 32))) := hq rfl
  generalize sgn s p c = R at *
  by_cases h : p < s.size
  · have y0 : ((s[p]'h).toNat : Int) = (byt s p : Int) := by rw [byt_eq s p h]
    by_cases hb : byt s p = c
    · have e1 : ((byt s p : Int) == (c : Int)) = true := beq_int_true hb
      by_cases hl : p + 1 = s.size
      · have hR : R = true := by rw [HS.o, decide_eq_true h, decide_eq_true hl, beq_iff_eq.2 hb]; rfl
        have e2 : ((p : Int) + 1 == (s.size : Int)) = true := beq_iff_eq.2 (by omega)
        have HR := hq hR
        clear HS hb hR hl
        generalize byt s p = c0 at *
        go_enter Tryd.func38, Tryd.ntmps38
        go_wp2_with fail
        go_ret
        exact ⟨by rw [HR.o]; rfl, rfl⟩
      · have e2 : ((p : Int) + 1 == (s.size : Int)) = false := beq_eq_false_iff_ne.2 (by omega)
        have h1 : p + 1 < s.size := by omega
        have y1 : ((s[p + 1]'h1).toNat : Int) = (byt s (p + 1) : Int) := by rw [byt_eq s (p + 1) h1]
        have hR : R = (byt s (p + 1) == 32) := by rw [HS.o, decide_eq_true h, decide_eq_false hl, beq_iff_eq.2 hb]; rfl
        have h32 : ((byt s (p + 1) : Int) == 32) = (byt s (p + 1) == 32) := by
          by_cases hx : byt s (p + 1) = 32
          · rw [hx]; rfl
          · rw [beq_eq_false_iff_ne.2 hx]; exact beq_eq_false_iff_ne.2 (by omega)
        rw [← hR] at h32
        clear HS hb hR hl
        generalize byt s (p + 1) = c1 at *
        generalize byt s p = c0 at *
        cases R with
        | true =>
          go_enter Tryd.func38, Tryd.ntmps38
          go_wp2_with fail
          go_ret
          exact ⟨rfl, rfl⟩
        | false =>
          go_enter Tryd.func38, Tryd.ntmps38
          go_wp2_with fail
          go_ret
          exact ⟨rfl, rfl⟩
    · have e1 : ((byt s p : Int) == (c : Int)) = false := beq_int_false hb
      have hR : R = false := by rw [HS.o, beq_eq_false_iff_ne.2 hb]; simp
      have HR := hq hR
      clear HS hb hR
      generalize byt s p = c0 at *
      go_enter Tryd.func38, Tryd.ntmps38
      go_wp2_with fail
      go_ret
      exact ⟨by rw [HR.o]; rfl, rfl⟩
  · have hR : R = false := by rw [HS.o, decide_eq_false h]; rfl
    have HR := hq hR
    have h' : ¬ (p : Int) < (s.size : Int) := by omega
    clear HS hR h
    go_enter Tryd.func38, Tryd.ntmps38
    go_wp2_with fail
    go_ret
    exact ⟨by rw [HR.o]; rfl, rfl⟩

set_option maxHeartbeats 1000000 in
set_option maxRecDepth 1000000 in
theorem yblanks_any (s : ByteArray) (p : Nat) (w : World) (hs : s.size ≤ 1099511627776) (hp : p ≤ s.size) :
    Calls Tryd.prog 37 #[.string s, .int .i64 (p : Int)] w fun e w' => e = .returned (.int .i64 (blk s p : Int)) ∧ w = w' := by
  have HB : Hq (blk s p = blk s p) := hq rfl
  generalize hR : blk s p = R at *
  have HR : Hq (blk s p = R) := hq hR
  clear hR HB
  go_enter Tryd.func37, Tryd.ntmps37
  go_wp2_with fail
  go_loop [1] (fun t => ∃ q : Nat, q ≤ s.size ∧ t = .int .i64 (q : Int) ∧ Hq (blk s q = R)) (fun t => s.size - (intOf t).toNat)
  case atStart => exact ⟨p, hp, rfl, HR⟩
  case round =>
    obtain ⟨q, hq1, rfl, hqr⟩ := hrel
    clear HR
    by_cases h : q < s.size
    · have y0 : ((s[q]'h).toNat : Int) = (byt s q : Int) := by rw [byt_eq s q h]
      by_cases h32 : byt s q = 32
      · have e1 : ((byt s q : Int) == 32) = true := beq_int_true h32
        have HN : Hq (blk s (q + 1) = R) := hq (by rw [← blk_step h h32]; exact hqr.o)
        clear h32 hqr
        generalize byt s q = c0 at *
        go_wp2_with fail
        go_round
        case rel => exact ⟨q + 1, h, int_eq (by omega), HN⟩
        case measure => simp [intOf]; omega
      · have e1 : ((byt s q : Int) == 32) = false := beq_int_false h32
        have HN : Hq (q = R) := hq (by rw [← hqr.o]; exact (blk_stop (fun hh => h32 hh.2)).symm)
        clear h32 hqr
        generalize byt s q = c0 at *
        go_wp2_with fail
        go_ret
        exact ⟨by rw [HN.o]; rfl, rfl⟩
    · have HN : Hq (q = R) := hq (by rw [← hqr.o]; exact (blk_stop (fun hh => h hh.1)).symm)
      have h' : ¬ (q : Int) < (s.size : Int) := by omega
      clear hqr h
      go_wp2_with fail
      go_ret
      exact ⟨by rw [HN.o]; rfl, rfl⟩

set_option maxHeartbeats 1000000 in
set_option maxRecDepth 1000000 in
theorem ycomment_any (s : ByteArray) (p : Nat) (w : World) (hs : s.size ≤ 1099511627776) (hp : p < s.size) (h35 : byt s p = 35) :
    Calls Tryd.prog 71 #[.string s, .int .i64 (p : Int)] w fun e w' => e = .returned (.bool (cmt s p)) ∧ w = w' := by
  have hC : cmt s p = (decide (0 < p) && byt s (p - 1) == 32) := by
    unfold cmt
    rw [h35]
    simp
  have HC := hq hC
  generalize cmt s p = R at *
  clear hC h35
  by_cases h : 0 < p
  · have hl : p - 1 < s.size := by omega
    have y0 : ((s[p - 1]'hl).toNat : Int) = (byt s (p - 1) : Int) := by rw [byt_eq s (p - 1) hl]
    have hz : ((p : Int) - 1).toNat = p - 1 := by omega
    have h32 : ((byt s (p - 1) : Int) == 32) = R := by
      rw [HC.o, decide_eq_true h, Bool.true_and]
      by_cases hx : byt s (p - 1) = 32
      · rw [hx]; rfl
      · rw [beq_eq_false_iff_ne.2 hx]; exact beq_eq_false_iff_ne.2 (by omega)
    clear HC
    generalize byt s (p - 1) = c0 at *
    go_enter Tryd.func71, Tryd.ntmps71
    go_wp2_with fail
    go_ret
    exact ⟨rfl, rfl⟩
  · have HR : Hq (R = false) := hq (by rw [HC.o, decide_eq_false h]; rfl)
    obtain rfl : p = 0 := by omega
    clear HC h
    go_enter Tryd.func71, Tryd.ntmps71
    go_wp2_with fail
    go_ret
    exact ⟨by rw [HR.o]; rfl, rfl⟩

set_option maxHeartbeats 1000000 in
set_option maxRecDepth 1000000 in
theorem ybroken_any (s : ByteArray) (p : Nat) (w : World) (hT : tabs w) (hs : s.size ≤ 1099511627776) (hp : p < s.size) :
    Calls Tryd.prog 46 #[.string s, .int .i64 (p : Int), .int .i32 ((Utf8.decode s p).1 : Int)] w fun e w' => e = .returned (.bool (decide (bad s p))) ∧ Below w.heap.size w w' := by
  have hn : nxt s p = (((Utf8.decode s p).1 : Int), ((Utf8.decode s p).2 : Int)) := by unfold nxt; rw [if_neg (by omega)]; rfl
  have HN := hq hn
  have HB : Hq (bad s p ↔ (Utf8.decode s p).1 = 65533 ∧ (Utf8.decode s p).2 = 1) := hq Iff.rfl
  have HX := hq (next_any s p w hT (by unfold maxLen; omega) (by omega))
  clear hn hT
  generalize hD : decide (bad s p) = D
  have HD := hq hD
  clear hD
  have hdl := decode_le s p
  generalize (Utf8.decode s p).1 = C at *
  generalize (Utf8.decode s p).2 = K at *
  rw [HN.o] at HX
  by_cases h1 : C = 65533
  · have e1 : ((C : Int) == 65533) = true := by rw [h1]; rfl
    have h2 : ((K : Int) == 1) = D := by
      rw [← HD.o]
      by_cases hk : K = 1
      · rw [decide_eq_true (HB.o.2 ⟨h1, hk⟩), hk]; rfl
      · rw [decide_eq_false (fun h => hk (HB.o.1 h).2)]; exact beq_eq_false_iff_ne.2 (by omega)
    clear HB HD h1
    go_enter Tryd.func46, Tryd.ntmps46
    go_wp2_with fail
    refine HX.o.mono ?_
    rintro e w1 ⟨rfl, hb⟩
    clear HX HN
    go_wp2_with fail
    go_ret
    exact ⟨rfl, hb⟩
  · have e1 : ((C : Int) == 65533) = false := beq_eq_false_iff_ne.2 (by omega)
    have HD2 : Hq (D = false) := hq (by rw [← HD.o]; exact decide_eq_false (fun h => h1 (HB.o.1 h).1))
    clear HB HD h1
    go_enter Tryd.func46, Tryd.ntmps46
    go_wp2_with fail
    refine HX.o.mono ?_
    rintro e w1 ⟨rfl, hb⟩
    clear HX HN
    go_wp2_with fail
    go_ret
    exact ⟨by rw [HD2.o]; rfl, hb⟩
end Go.Proofs.YtekihjffefokjaaDoor
