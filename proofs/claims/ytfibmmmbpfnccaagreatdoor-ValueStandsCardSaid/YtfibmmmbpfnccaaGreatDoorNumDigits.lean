/-
  WALKS: number.digits, the parts of a literal.
-/
import Derived.Test.YtfibmmmbpfnccaaGreatDoorChecked
import Derived.Test.YtfibmmmbpfnccaaGreatDoorShelf
import Derived.Test.YtfibmmmbpfnccaaGreatDoorMem
import Derived.Test.YtfibmmmbpfnccaaGreatDoorNumMath
namespace Go.Proofs.YtfibmmmbpfnccaaGreatDoor
open Go.RowKit

theorem isDig_byt (s : ByteArray) (j : Nat) (h : j < s.data.toList.length) : isDig s.data.toList[j] = (decide (48 ≤ byt s j) && decide (byt s j ≤ 57)) := by
  unfold isDig
  rw [byt_eq s j h]
  rfl

set_option maxHeartbeats 400000 in
set_option maxRecDepth 1000000 in
theorem digits_any (s : ByteArray) (w : World) (hs : s.size ≤ maxLen) :
    Calls Tryz.prog 138 #[.string s] w fun e w' => e = .returned (.int .i64 (nd s.data.toList)) ∧ Below w.heap.size w w' := by
  unfold maxLen at hs
  generalize hV : nd s.data.toList = V
  have HV := hq hV
  clear hV
  go_enter Tryz.func138, Tryz.ntmps138
  go_wp2
  go_loopw [] (fun wr => ∃ (pos : Nat), pos ≤ s.size ∧ wr.heap[w.heap.size]? = some (.stringIter s pos) ∧ Below w.heap.size w wr ∧ Hq (∀ j, j < pos → 48 ≤ byt s j ∧ byt s j ≤ 57)) (fun wr => s.size - wr.iterPos w.heap.size)
  case atStart => exact ⟨0, by omega, World.iter_heap w s 0, (Below.refl _ _).alloc (Nat.le_refl _) _, hq (fun j h => by omega)⟩
  case round =>
    obtain ⟨pos, hps, hit, hb, hd⟩ := hrel
    have hlt : w.heap.size < wr.heap.size := (Array.getElem?_eq_some_iff.1 hit).1
    by_cases hp : pos < s.size
    · have hnx : ∀ ty, (Instr.next (.pointer (some ⟨w.heap.size, 0, none⟩)) true ty).run Tryz.prog wr = _ := fun ty => Lib.run_next_any_at wr w.heap.size s pos ty hit hp
      have hwp := wd_pos s pos
      have hdl := decode_le s pos
      have hit2 := Lib.iterAt_heap wr w.heap.size s pos (pos + (Utf8.decode s pos).2) hit
      have hb2 := Lib.below_iterAt hb (k := w.heap.size) (Nat.le_refl _) s (pos + (Utf8.decode s pos).2)
      have hlow : Hq (byt s pos < 128 → (Utf8.decode s pos) = (byt s pos, 1)) := hq (dec_low s pos)
      have hhigh : Hq (128 ≤ byt s pos → 128 ≤ (Utf8.decode s pos).1) := hq (dec_high s pos)
      have hend : Hq (¬ (48 ≤ byt s pos ∧ byt s pos ≤ 57) → pos = V) := hq (fun hn => by
        rw [← HV.o]
        refine (nd_is _ pos (fun j hj hjp => ?_) (fun hk => ?_) hps).symm
        · rw [isDig_byt]; have := hd.o j hjp; simp; omega
        · rw [isDig_byt]; simp; omega)
      by_cases hdig : 48 ≤ byt s pos ∧ byt s pos ≤ 57
      · have e1 := hlow.o (by omega)
        have HW : Hq ((Utf8.decode s pos).2 = 1) := hq (by rw [e1])
        have hC1 : (48 : Int) ≤ ((Utf8.decode s pos).1 : Int) := by rw [e1]; simp only; omega
        have hC2 : ((Utf8.decode s pos).1 : Int) ≤ 57 := by rw [e1]; simp only; omega
        clear e1
        go_wp2
        go_roundw
        case rel => exact ⟨pos + (Utf8.decode s pos).2, by rw [HW.o]; omega, hit2, hb2, hq (fun j hj => by
          rw [HW.o] at hj
          by_cases hjp : j = pos
          · subst hjp; exact hdig
          · exact hd.o j (by omega))⟩
        case measure => simp only [World.iterPos, hit2, hit]; rw [HW.o]; omega
      · have hV : pos = V := hend.o hdig
        have hC : ((Utf8.decode s pos).1 : Int) < 48 ∨ (57 : Int) < ((Utf8.decode s pos).1 : Int) := by
          by_cases h128 : byt s pos < 128
          · rw [hlow.o h128]; simp only; omega
          · have := hhigh.o (by omega); omega
        have HVV := hq hV
        clear hV hdig
        rcases hC with hC | hC
        · go_wp2
          go_ret
          exact ⟨ret_one (int_eq (by rw [HVV.o])), hb2⟩
        · by_cases hC' : ((Utf8.decode s pos).1 : Int) < 48
          · omega
          · go_wp2
            go_ret
            exact ⟨ret_one (int_eq (by rw [HVV.o])), hb2⟩
    · obtain rfl : pos = s.size := by omega
      have hnx : ∀ ty, (Instr.next (.pointer (some ⟨w.heap.size, 0, none⟩)) true ty).run Tryz.prog wr = _ := fun ty => Lib.run_next_end_at wr w.heap.size s s.size ty hit hp
      have hV : s.size = V := by
        rw [← HV.o]
        refine (nd_is _ s.size (fun j hj hjp => ?_) (fun hk => absurd hk (Nat.lt_irrefl _)) (Nat.le_refl _)).symm
        rw [isDig_byt]; have := hd.o j hjp; simp; omega
      have HVV := hq hV
      clear hV
      go_wp2
      go_ret
      exact ⟨ret_one (int_eq (by rw [HVV.o])), hb⟩
end Go.Proofs.YtfibmmmbpfnccaaGreatDoor
