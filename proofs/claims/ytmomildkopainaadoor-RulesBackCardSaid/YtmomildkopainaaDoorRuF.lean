/-
  WALKS: rules.Find; pointer.Compare.
-/
import Derived.Test.YtmomildkopainaaDoorRuC
import Derived.Test.YtmomildkopainaaDoorShrT
namespace Go.Proofs.YtmomildkopainaaDoor
open Go.RowKit

def findM : List RU → List Bs → Bs × Bool
  | [], _ => ([], false)
  | r :: l, q => if matchM r.p.l q then (r.k, true) else findM l q
def FindPost (x : Bs × Bool) (W : World) (e : Ending) (W' : World) : Prop := e = .returned (.tuple #[.string (st x.1), .bool x.2]) ∧ Below W.heap.size W W'
set_option maxHeartbeats 2000000 in
set_option maxRecDepth 1000000 in
theorem find_any (o : Option Addr) (cap : Nat) (l : List RU) (q : SRow) (W : World) (h : RulesOk W o cap l) (hq0 : q.ok W) : Calls Tryd.prog 15 #[.slice o l.length cap, q.v] W (FindPost (findM l q.l) W) := by
  have HRU := hq h
  have hpc := h.le
  have hpm := h.cp
  unfold maxLen at hpm
  have HMA := hq (fun (r : RU) (_hr : r ∈ l) WW (hb : Below W.heap.size W WW) (hp : r.p.ok WW) => match_any r.p q WW hp (hq0.grow hb))
  have HP : Hq (∀ b W', findM l q.l = b → Below W.heap.size W W' → FindPost (findM l q.l) W (.returned (.tuple #[.string (st b.1), .bool b.2])) W') := hq (fun b W' h1 h2 => ⟨by rw [h1], h2⟩)
  have HG0 : Hq (findM l q.l = findM (l.drop 0) q.l) := hq rfl
  generalize FindPost (findM l q.l) W = PP at *
  generalize findM l q.l = RM at *
  clear h hq0
  obtain ⟨qo, qc, ql⟩ := q
  unfold SRow.v
  unfold SRow.v at HMA
  simp only at HMA HG0 ⊢
  go_enter Tryd.func15, Tryd.ntmps15
  go_wp2_with fail
  go_loopg [4, 5, 7, 10] l.length (fun gk _ _ _ u wr => ∃ i : Nat, i + gk ≤ l.length ∧ l.length ≤ i + gk ∧ u = .int .i64 (i : Int) ∧ Hq (RM = findM (l.drop i) ql) ∧ Hq (Below W.heap.size W wr))
  case atStart => exact ⟨0, by omega, by omega, rfl, HG0, hq (Below.refl _ _)⟩
  case round =>
    obtain ⟨i, hi1, hi2, rfl, hall, hb⟩ := hrel
    clear HG0
    by_cases hil : i < l.length
    · have hiz : (i : Int) < (l.length : Int) := by omega
      obtain ⟨b, f, rfl, c0, c1, hok⟩ := HRU.o.rd.grow hb.o i hil
      have HPC := hq (HMA.o l[i] (List.getElem_mem hil))
      have HT := hq (hall.o.trans (by rw [List.drop_eq_getElem_cons hil]; rfl : findM (l.drop i) ql = if matchM l[i].p.l ql then (l[i].k, true) else findM (l.drop (i + 1)) ql))
      have HOK := hq hok
      generalize l[i] = r at *
      obtain ⟨⟨po, pc, pl⟩, k⟩ := r
      simp only at HPC HT c0 c1 HOK
      unfold SRow.v at c0
      simp only at c0
      have hb2 := below_alloc wr (.cells #[.slice po pl.length pc, .string (st k)] 73)
      have HX := hq (Whole.made wr 73 #[.slice po pl.length pc, .string (st k)])
      have HB2 := hq (below_trans hb.o hb2)
      have HOK2 := hq (HOK.o.grow hb2)
      have HCC := hq (HPC.o _ HB2.o HOK2.o)
      have x0 := HX.o.at_ 0
      clear HMA HRU hok HOK HPC hb2 hb hall
      go_upto_region 4 with fail
      generalize wr.alloc (.cells #[.slice po pl.length pc, .string (st k)] 73) = w1 at *
      generalize wr.heap.size = gB at *
      clear c0 c1
      go_wp2_with fail
      refine HCC.o.mono ?_
      rintro e W2 ⟨rfl, hb3⟩
      have x1 := (HX.o.grow hb3).at_ 1
      have HB3 := hq (below_trans HB2.o hb3)
      clear HCC hb3 HB2 HOK2 HX x0
      generalize matchM pl ql = mb at *
      cases mb with
      | true =>
        have HV := hq (HP.o (k, true) W2 (by rw [HT.o]; rfl) HB3.o)
        clear HP HT HB3
        go_wp2_with fail
        first | exact HV.o | (go_ret; exact HV.o) | (go_ret2; exact HV.o)
      | false =>
        have HT2 := hq (show RM = findM (l.drop (i + 1)) ql by rw [HT.o]; rfl)
        clear HP HT
        go_wp2_with fail
        go_roundg (gk - 1)
        case measure => omega
        case rel => exact ⟨i + 1, by omega, by omega, int_eq (by omega), HT2, HB3⟩
    · have hiz : ¬ (i : Int) < (l.length : Int) := by omega
      have HV := hq (HP.o ([], false) wr (by rw [hall.o, List.drop_of_length_le (by omega)]; rfl) hb.o)
      clear HP HMA HRU hall hb
      go_wp2_with fail
      first | exact HV.o | (go_ret; exact HV.o) | (go_ret2; exact HV.o)
theorem cmpB_zero : ∀ x y : Bs, Lib.compareBytes x y = 0 ↔ x = y
  | [], [] => by simp [Lib.compareBytes]
  | [], _ :: _ => by simp [Lib.compareBytes]
  | _ :: _, [] => by simp [Lib.compareBytes]
  | a :: x, b :: y => by
    rw [Lib.compareBytes]
    by_cases h1 : a < b
    · rw [if_pos h1]
      constructor
      · intro h; omega
      · intro h; injection h with h2 _; subst h2; exact absurd h1 (UInt8.lt_irrefl a)
    · rw [if_neg h1]
      by_cases h2 : b < a
      · rw [if_pos h2]
        constructor
        · intro h; omega
        · intro h; injection h with h3 _; subst h3; exact absurd h2 (UInt8.lt_irrefl a)
      · rw [if_neg h2, cmpB_zero x y]
        have h3 : a = b := by
          rw [UInt8.lt_iff_toNat_lt] at h1 h2
          exact UInt8.toNat_inj.1 (by omega)
        rw [h3]
        simp
theorem cmpI_zero (x y : Int) : Lib.compareInt x y = 0 ↔ x = y := by
  unfold Lib.compareInt
  split
  · constructor <;> intro h <;> omega
  · split
    · constructor <;> intro h <;> omega
    · constructor <;> intro h <;> omega
set_option maxHeartbeats 2000000 in
set_option maxRecDepth 1000000 in
theorem pcomp_any (o o' : Option Addr) (cap cap' : Nat) (la lb : List Bs) (w : World) (hl : la.length ≤ cap) (hc : cap ≤ maxLen) (hin : StrsIn w o la) (_hl' : lb.length ≤ cap') (_hc' : cap' ≤ maxLen) (hin' : StrsIn w o' lb) :
    Calls Tryd.prog 24 #[.slice o la.length cap, .slice o' lb.length cap'] w (CompPost la lb w) := by
  have HA := hq hin
  have HB := hq hin'
  unfold maxLen at hc _hc'
  clear hin hin'
  have HP : Hq (∀ (c : Int) w', (c = 0 ↔ la = lb) → Below w.heap.size w w' → CompPost la lb w (.returned (.int .i64 c)) w') := hq (fun c w' h1 h2 => ⟨⟨c, rfl, h1⟩, h2⟩)
  have HSC := hq (fun (x y : Bs) WW => Tryd.strings_Compare (st x) (st y) WW)
  have HCI := hq (fun (x y : Int) WW => Tryd.cmp_Compare_int x y WW)
  generalize CompPost la lb w = PP at *
  go_enter Tryd.func24, Tryd.ntmps24
  go_wp2_with fail
  go_loopw [4, 5, 6, 12] (fun r4 _ _ i wr => ∃ k : Nat, k ≤ la.length ∧ k ≤ lb.length ∧ i = .int .i64 (k : Int) ∧ Hq (la.take k = lb.take k) ∧ Hq (Below w.heap.size w wr)) (fun _ _ _ i _ => la.length - (intOf i).toNat)
  case atStart => exact ⟨0, Nat.zero_le _, Nat.zero_le _, rfl, hq rfl, hq (Below.refl _ _)⟩
  case round =>
    obtain ⟨k, hk, hk', rfl, ht, hb⟩ := hrel
    by_cases h : k < la.length ∧ k < lb.length
    · obtain ⟨h, h2⟩ := h
      have hkz : (k : Int) < min (la.length : Int) (lb.length : Int) := by omega
      have hkz1 : (k : Int) < (la.length : Int) := by omega
      have hkz2 : (k : Int) < (lb.length : Int) := by omega
      obtain ⟨b, f, rfl, hcell⟩ := HA.o k h
      obtain ⟨b', f', rfl, hcell'⟩ := HB.o k h2
      have c0 := (hb.o.cell (cell_blk hcell)).trans hcell
      have c1 := (hb.o.cell (cell_blk hcell')).trans hcell'
      have HN := hq (take_eq h h2 ht.o)
      have HE := hq (@ne_at la lb k h h2)
      clear hcell hcell' ht HA HB
      generalize la[k] = x at *
      generalize lb[k] = y at *
      have HC := hq (fun WW => HSC.o x y WW)
      have HZ := hq (cmpB_zero x y)
      have HC2 : Hq (∀ WW, Calls Tryd.prog 43 #[.string (st x), .string (st y)] WW fun e w' => e = .returned (.int .i64 (Lib.compareBytes x y)) ∧ w' = WW) := HC
      clear HC HSC HCI
      generalize Lib.compareBytes x y = c at *
      by_cases hz : c = 0
      · have HN2 := hq (HN.o (HZ.o.1 hz))
        have HB2 := hq hb.o.drew
        subst hz
        clear HN HE HP HZ hb
        go_upto_region 4 with fail
        go_region_with (go_at_call 43; refine (HC2.o _).mono ?_; rintro e' w9 ⟨rfl, rfl⟩)
        all_goals (try go_wp2_with fail)
        all_goals go_roundw
        all_goals first | exact ⟨k + 1, h, h2, int_eq (by omega), HN2, HB2⟩ | (simp [intOf]; omega)
      · have hzb : (c == 0) = false := beq_eq_false_iff_ne.2 hz
        have hzb' : (c != 0) = true := by rw [bne, hzb]; rfl
        have HV := hq (HP.o c wr.drew ⟨fun e => absurd e hz, fun e => absurd e (HE.o fun e => hz (HZ.o.2 e))⟩ hb.o.drew)
        clear HN HE HP HZ hb
        go_upto_region 4 with fail
        go_region_with (go_at_call 43; refine (HC2.o _).mono ?_; rintro e' w9 ⟨rfl, rfl⟩)
        all_goals (try go_wp2_with fail)
        all_goals first | exact HV.o | (go_ret; exact HV.o)
    · have hkz : ¬ (k : Int) < min (la.length : Int) (lb.length : Int) := by omega
      have hz := cmpI_zero (la.length : Int) (lb.length : Int)
      have HV := hq (HP.o (Lib.compareInt la.length lb.length) wr ⟨fun e => by
        have hlen : la.length = lb.length := by have := hz.1 e; omega
        have := ht.o
        rwa [List.take_of_length_le (by omega), List.take_of_length_le (by omega)] at this, fun e => hz.2 (by rw [e])⟩ hb.o)
      clear ht HP hz HA HB HSC
      go_wp2_with fail
      refine (HCI.o _ _ _).mono ?_
      rintro e w9 ⟨rfl, rfl⟩
      go_wp2_with fail
      first | exact HV.o | (go_ret; exact HV.o)
end Go.Proofs.YtmomildkopainaaDoor
