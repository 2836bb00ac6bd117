/-
  WALKS: quote.unicode.
-/
import Derived.Test.YtmomildkopainaaDoorUnqW
namespace Go.Proofs.YtmomildkopainaaDoor
open Go.RowKit

def UniPost (o : Option Nat) (w : World) (e : Ending) (w' : World) : Prop := e = .returned (.tuple #[.int .i32 ((o.getD 0 : Nat) : Int), .bool o.isSome]) ∧ Below w.heap.size w w'
theorem byt_sub (t : ByteArray) (a b j : Nat) (hb : b ≤ t.size) (hj : a + j < b) : byt (t.extract a b) j = byt t (a + j) := by
  have h1 : j < (t.extract a b).size := by rw [ByteArray.size_extract]; omega
  rw [byt_eq _ j h1, byt_eq t (a + j) (by omega)]
  congr 1
  simp [ByteArray.getElem_extract]
theorem hexv_dec (u : ByteArray) (p : Nat) : hexv (Utf8.decode u p).1 = hexv (byt u p) ∧ (∀ x, hexv (Utf8.decode u p).1 = some x → (Utf8.decode u p).2 = 1) := by
  by_cases h : byt u p < 128
  · rw [dec_low u p h]
    exact ⟨rfl, fun _ _ => rfl⟩
  · have h1 := dec_high u p (by omega)
    have n1 : hexv (Utf8.decode u p).1 = none := by
      cases hx : hexv (Utf8.decode u p).1 with
      | none => rfl
      | some x => have := (hexv_lt hx).2; omega
    have n2 : hexv (byt u p) = none := by
      cases hx : hexv (byt u p) with
      | none => rfl
      | some x => have := (hexv_lt hx).2; omega
    rw [n1, n2]
    exact ⟨rfl, fun x hx => by cases hx⟩

set_option maxHeartbeats 1000000 in
set_option maxRecDepth 1000000 in
theorem unicode_any (t : ByteArray) (w : World) (hs : t.size ≤ 1099511627776) : Calls Tryd.prog 147 #[.string t] w (UniPost (uni t 0) w) := by
  generalize hR : uni t 0 = R
  have HR := hq hR
  clear hR
  unfold uni at HR
  go_enter Tryd.func147, Tryd.ntmps147
  go_upto_region 1 with fail
  go_cut [21] (fun c wx => c = .bool (decide (¬ (0 + 6 ≤ t.size ∧ byt t 0 = 92 ∧ byt t (0 + 1) = 117))) ∧ wx = w)
  case first =>
    clear HR
    by_cases h6 : t.size < 6
    · have HN : Hq (decide (¬ (0 + 6 ≤ t.size ∧ byt t 0 = 92 ∧ byt t (0 + 1) = 117)) = true) := hq (decide_eq_true (fun h => by omega))
      go_wp2_with fail
      go_meet
      exact ⟨congrArg Value.bool HN.o.symm, rfl⟩
    · have y0 : ((t[0]'(by omega)).toNat : Int) = (byt t 0 : Int) := by rw [byt_eq t 0 (by omega)]
      have y1 : ((t[1]'(by omega)).toNat : Int) = (byt t 1 : Int) := by rw [byt_eq t 1 (by omega)]
      have e6 : decide ((t.size : Int) < 6) = false := decide_eq_false (by omega)
      by_cases h0 : byt t 0 = 92
      · have e0 : ((byt t 0 : Int) != 92) = false := by rw [h0]; rfl
        have HN : Hq (decide (¬ (0 + 6 ≤ t.size ∧ byt t 0 = 92 ∧ byt t (0 + 1) = 117)) = ((byt t 1 : Int) != 117)) := hq (by
          rw [Bool.eq_iff_iff, decide_eq_true_iff, bne_iff_ne, Nat.zero_add, Nat.zero_add]
          constructor
          · intro h hh; exact h ⟨by omega, h0, by omega⟩
          · intro h hh; exact h (by omega))
        clear h0
        generalize byt t 0 = b0 at *
        generalize byt t 1 = b1 at *
        go_wp2_with fail
        go_meet
        exact ⟨congrArg Value.bool HN.o.symm, rfl⟩
      · have e0 : ((byt t 0 : Int) != 92) = true := bne_iff_ne.2 (by omega)
        have HN : Hq (decide (¬ (0 + 6 ≤ t.size ∧ byt t 0 = 92 ∧ byt t (0 + 1) = 117)) = true) := hq (decide_eq_true (fun h => h0 h.2.1))
        clear h0
        generalize byt t 0 = b0 at *
        generalize byt t 1 = b1 at *
        go_wp2_with fail
        go_meet
        exact ⟨congrArg Value.bool HN.o.symm, rfl⟩
  case rest =>
    obtain ⟨rfl, hwc⟩ := hcut
    obtain rfl := hwc.symm
    by_cases hg : 0 + 6 ≤ t.size ∧ byt t 0 = 92 ∧ byt t (0 + 1) = 117
    · have HN := hq (HR.o.symm.trans (if_pos hg))
      have hz6 : 6 ≤ t.size := by omega
      rw [decide_eq_false (fun h => h hg)]
      clear HR hg
      have HU : Hq (R = hexAcc t 4) := hq (by rw [HN.o, hexAcc_four])
      have hus : (t.extract 2 6).size = 4 := by rw [ByteArray.size_extract]; omega
      have hub : ∀ j, j < 4 → byt (t.extract 2 6) j = byt t (2 + j) := fun j hj => byt_sub t 2 6 j hz6 (by omega)
      clear HN
      go_wp2_with fail
      generalize t.extract 2 6 = u at *
      have HUB := hq hub
      have HUS := hq hus
      have hus1 : u.size ≤ 4 := by omega
      have hus2 : 4 ≤ u.size := by omega
      clear hub hus
      go_loopw [4] (fun n wr => ∃ (pos a : Nat), pos ≤ 4 ∧ n = .int .i32 a ∧ Hq (hexAcc t pos = some a) ∧ a < 65536 ∧ (pos < 4 → a < 4096) ∧ wr.heap[w.heap.size]? = some (.stringIter u pos) ∧ Below w.heap.size w wr)
        (fun _ wr => 4 - wr.iterPos w.heap.size)
      case atStart => exact ⟨0, 0, by omega, rfl, hq rfl, by omega, fun _ => by omega, World.iter_heap w u 0, (Below.refl _ _).alloc (Nat.le_refl _) _⟩
      case round =>
        obtain ⟨pos, a, hp4, rfl, hacc, ha, ha3, hit, hb⟩ := hrel
        have HA3 := hq ha3
        clear ha3
        have hlt : w.heap.size < wr.heap.size := (Array.getElem?_eq_some_iff.1 hit).1
        by_cases hp : pos < 4
        · have hpu : pos < u.size := by omega
          have hnx : ∀ ty, (Instr.next (.pointer (some ⟨w.heap.size, 0, none⟩)) true ty).run Tryd.prog wr = _ := fun ty => Lib.run_next_any_at wr w.heap.size u pos ty hit hpu
          have hit2 := Lib.iterAt_heap wr w.heap.size u pos (pos + (Utf8.decode u pos).2) hit
          have hb2 := Lib.below_iterAt hb (k := w.heap.size) (Nat.le_refl _) u (pos + (Utf8.decode u pos).2)
          have hdl := decode_le u pos
          have hxd := hexv_dec u pos
          rw [HUB.o pos hp] at hxd
          have hdg := fun W => digit_any (Utf8.decode u pos).1 W hdl
          have HST : Hq (hexAcc t (pos + 1) = match hexv (Utf8.decode u pos).1 with | none => none | some x => some (a * 16 + x)) := hq (by
            rw [hexAcc, hacc.o]; simp only; rw [hxd.1]; cases hexv (byt t (2 + pos)) <;> rfl)
          have HLT := hq (hexAcc_lt t (pos + 1))
          have hx16 : ∀ x, hexv (Utf8.decode u pos).1 = some x → x < 16 := fun x hx => (hexv_lt hx).1
          have ha3 := HA3.o hp
          have HW := hq hxd.2
          clear hxd
          generalize hexv (Utf8.decode u pos).1 = o at *
          have HDG := hq hdg
          have HX16 := hq hx16
          clear hdg hx16
          go_wp2_with fail
          refine (HDG.o _).mono ?_
          cases o with
          | none =>
            rintro e w2 ⟨rfl, hw2⟩
            obtain rfl := hw2
            have HN : Hq (R = none) := hq (by
              rw [HU.o]
              have h1 : hexAcc t (pos + 1) = none := HST.o
              have := hexAcc_none t (pos + 1) (3 - pos) h1
              rwa [show pos + 1 + (3 - pos) = 4 by omega] at this)
            clear HST HU
            go_wp2_with fail
            go_ret2
            exact ⟨by rw [HN.o]; rfl, hb2⟩
          | some x =>
            rintro e w2 ⟨rfl, hw2⟩
            obtain rfl := hw2
            have hx := HX16.o x rfl
            have hw1 : (Utf8.decode u pos).2 = 1 := HW.o x rfl
            have HAC : Hq (hexAcc t (pos + 1) = some (a * 16 + x)) := hq HST.o
            have HITK : Hq ((wr.iterAt w.heap.size u (pos + (Utf8.decode u pos).2)).heap[w.heap.size]? = some (.stringIter u (pos + 1))) := hq (by rw [hw1] at hit2 ⊢; exact hit2)
            have HIT0 := hq hit
            have HPOS : Hq ((wr.iterAt w.heap.size u (pos + (Utf8.decode u pos).2)).iterPos w.heap.size = pos + 1) := hq (by simp only [World.iterPos, HITK.o])
            have HPOS0 : Hq (wr.iterPos w.heap.size = pos) := hq (by simp only [World.iterPos, hit])
            have HB4 : Hq (pos + 1 < 4 → a * 16 + x < 4096) := hq (fun h => by
              have h2 := hexAcc_lt t (pos + 1) (a * 16 + x) HAC.o
              have h3 : 16 ^ (pos + 1) ≤ 16 ^ 3 := Nat.pow_le_pow_right (by omega) (by omega)
              omega)
            clear HST HU hw1 hit2 hit HW
            go_wp2_with fail
            go_roundw
            case rel => exact ⟨pos + 1, a * 16 + x, by omega, int_eq (by omega), HAC, by omega, HB4.o, HITK.o, hb2⟩
            case measure => rw [HPOS.o, HPOS0.o]; omega
        · have hpu : ¬ pos < u.size := by omega
          have hnx : ∀ ty, (Instr.next (.pointer (some ⟨w.heap.size, 0, none⟩)) true ty).run Tryd.prog wr = _ := fun ty => Lib.run_next_end_at wr w.heap.size u pos ty hit hpu
          obtain rfl : pos = 4 := by omega
          have HN : Hq (R = some a) := hq (by rw [HU.o]; exact hacc.o)
          clear hacc HU
          go_wp2_with fail
          go_ret2
          exact ⟨by rw [HN.o]; rfl, hb⟩
    · have HN := hq (HR.o.symm.trans (if_neg hg))
      rw [decide_eq_true hg]
      clear HR hg
      go_wp2_with fail
      go_ret2
      exact ⟨by rw [HN.o]; rfl, Below.refl _ _⟩
end Go.Proofs.YtmomildkopainaaDoor
