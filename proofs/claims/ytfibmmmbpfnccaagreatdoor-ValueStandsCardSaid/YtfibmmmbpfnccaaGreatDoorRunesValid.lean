/-
  WALKS: runes.Valid.
-/
import Derived.Test.YtfibmmmbpfnccaaGreatDoorVldM
namespace Go.Proofs.YtfibmmmbpfnccaaGreatDoor
open Go.RowKit

set_option maxHeartbeats 1000000 in
theorem valid_any (s : ByteArray) (w : World) (hT : tabs w) (hs : s.size ≤ maxLen) :
    Calls Tryz.prog 86 #[.string s] w fun e w' => e = .returned (.tuple #[.int .i64 (valid s).1, .bool (valid s).2]) ∧ Below w.heap.size w w' := by
  have HT := Lib.hid hT
  have hsz := tabs_size hT
  clear hT
  have HS := Lib.hid hs
  unfold maxLen at hs
  generalize hV : valid s = V
  have HV := Lib.hid hV
  clear hV
  go_enter Tryz.func86, Tryz.ntmps86
  go_wp2
  go_loopw [] (fun wr => ∃ (pos f : Nat), wr.heap[w.heap.size]? = some (.stringIter s pos) ∧ Below w.heap.size w wr ∧ vld s f pos = V ∧ s.size ≤ pos + f) (fun wr => s.size - wr.iterPos w.heap.size)
  case atStart => exact ⟨0, s.size, World.iter_heap w s 0, (Below.refl _ _).alloc (Nat.le_refl _) _, HV.out, by omega⟩
  case round =>
    obtain ⟨pos, f, hit, hb, hv, hf⟩ := hrel
    have hlt : w.heap.size < wr.heap.size := (Array.getElem?_eq_some_iff.1 hit).1
    have HVl := Lib.hid hv
    clear hv
    by_cases hp : pos < s.size
    · have hnx : ∀ ty, (Instr.next (.pointer (some ⟨w.heap.size, 0, none⟩)) true ty).run Tryz.prog wr = _ := fun ty => Lib.run_next_any_at wr w.heap.size s pos ty hit hp
      obtain ⟨f, rfl⟩ : ∃ g, f = g + 1 := ⟨f - 1, by omega⟩
      have hwp := wd_pos s pos
      have hit2 := Lib.iterAt_heap wr w.heap.size s pos (pos + (Utf8.decode s pos).2) hit
      have hb2 := Lib.below_iterAt hb (k := w.heap.size) (Nat.le_refl _) s (pos + (Utf8.decode s pos).2)
      have hT2 : Hid (tabs (wr.iterAt w.heap.size s (pos + (Utf8.decode s pos).2))) := Lib.hid (tabs_below HT.out hb2 hsz.1 hsz.2)
      have hsz2 := Lib.iterAt_size wr w.heap.size s (pos + (Utf8.decode s pos).2)
      have HSz2 := Lib.hid hsz2
      clear hsz2
      have hdl := decode_le s pos
      have hn : nxt s pos = (((Utf8.decode s pos).1 : Int), ((Utf8.decode s pos).2 : Int)) := by unfold nxt; rw [if_neg (by omega)]; rfl
      have HN := Lib.hid hn
      clear hn
      have hw1 : wd s pos = (Utf8.decode s pos).2 := rfl
      have HW := Lib.hid hw1
      clear hw1
      by_cases hc : (Utf8.decode s pos).1 = 65533
      · have HC := Lib.hid hc
        have hcb : (((Utf8.decode s pos).1 : Int) != 65533) = false := by simp [hc]
        clear hc
        go_wp2_with fail
        refine (next_any s pos _ hT2.out HS.out (by omega)).mono ?_
        rintro e w' ⟨rfl, hb3⟩
        have hit3 : w'.heap[w.heap.size]? = some (.stringIter s (pos + (Utf8.decode s pos).2)) := (hb3.block _ (by rw [HSz2.out]; exact hlt)).trans hit2
        have hb4 := hb2.trans (hb3.mono (by rw [HSz2.out]; omega))
        rw [HN.out]
        by_cases hw : (Utf8.decode s pos).2 = 1
        · have hwb : ((((Utf8.decode s pos).2 : Nat) : Int) == 1) = true := by simp [hw]
          have hr := HVl.out
          unfold vld at hr
          rw [if_pos hp, if_pos ⟨HC.out, hw⟩] at hr
          have HR := Lib.hid hr
          clear hr hw
          go_wp2
          go_ret2
          rw [← HR.out]
          exact ⟨rfl, hb4⟩
        · have hwb : ((((Utf8.decode s pos).2 : Nat) : Int) == 1) = false := by simp; omega
          have hr := HVl.out
          unfold vld at hr
          rw [if_pos hp, if_neg (fun h => hw h.2)] at hr
          have HR := Lib.hid hr
          clear hr hw
          go_wp2
          go_roundw
          case rel => exact ⟨pos + (Utf8.decode s pos).2, f, hit3, hb4, HR.out, by rw [← HW.out]; omega⟩
          case measure => simp only [World.iterPos, hit3, hit]; rw [← HW.out]; omega
      · have hcb : (((Utf8.decode s pos).1 : Int) != 65533) = true := by simp; omega
        have hr := HVl.out
        unfold vld at hr
        rw [if_pos hp, if_neg (fun h => hc h.1)] at hr
        have HR := Lib.hid hr
        clear hr hc
        go_wp2
        go_roundw
        case rel => exact ⟨pos + (Utf8.decode s pos).2, f, hit2, hb2, HR.out, by rw [← HW.out]; omega⟩
        case measure => simp only [World.iterPos, hit2, hit]; rw [← HW.out]; omega
    · have hnx : ∀ ty, (Instr.next (.pointer (some ⟨w.heap.size, 0, none⟩)) true ty).run Tryz.prog wr = _ := fun ty => Lib.run_next_end_at wr w.heap.size s pos ty hit hp
      go_wp2
      go_ret2
      have := HVl.out
      rw [vld_end s f pos hp] at this
      subst this
      exact ⟨rfl, hb⟩
end Go.Proofs.YtfibmmmbpfnccaaGreatDoor
