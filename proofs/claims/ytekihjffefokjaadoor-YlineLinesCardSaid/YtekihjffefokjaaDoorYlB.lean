/-
  WALKS: yline.clean.
-/
import Derived.Test.YtekihjffefokjaaDoorYlA
namespace Go.Proofs.YtekihjffefokjaaDoor
open Go.RowKit

theorem dec_lt (s : ByteArray) (p c : Nat) (hc : c ≤ 128) : (Utf8.decode s p).1 < c ↔ byt s p < c := by
  by_cases h : byt s p < 128
  · rw [dec_low s p h]
  · have := dec_high s p (by omega)
    omega

set_option maxHeartbeats 1000000 in
set_option maxRecDepth 1000000 in
theorem yclean_any (s : ByteArray) (w : World) (hT : tabs w) (hs : s.size ≤ 1099511627776) :
    Calls Tryd.prog 36 #[.string s] w fun e w' => e = .returned (.tuple #[.int .i64 (cleanM s true : Int), .bool (decide (cleanM s true = s.size))]) ∧ Below w.heap.size w w' := by
  have HT := hq hT
  have hsz := tabs_size hT
  clear hT
  have HV : Hq (cleanM s true = clnM s true s.size 0) := hq rfl
  generalize cleanM s true = V at *
  go_enter Tryd.func36, Tryd.ntmps36
  go_wp2_with fail
  go_loopw [] (fun wr => ∃ (pos f : Nat), pos ≤ s.size ∧ wr.heap[w.heap.size]? = some (.stringIter s pos) ∧ Below w.heap.size w wr ∧ Hq (V = clnM s true f pos) ∧ s.size ≤ pos + f) (fun wr => s.size - wr.iterPos w.heap.size)
  case atStart => exact ⟨0, s.size, Nat.zero_le _, World.iter_heap w s 0, (Below.refl _ _).alloc (Nat.le_refl _) _, HV, by omega⟩
  case round =>
    obtain ⟨pos, f, hps, hit, hb, hv, hf⟩ := hrel
    clear HV
    have hlt : w.heap.size < wr.heap.size := (Array.getElem?_eq_some_iff.1 hit).1
    by_cases hp : pos < s.size
    · have hnx : ∀ ty, (Instr.next (.pointer (some ⟨w.heap.size, 0, none⟩)) true ty).run Tryd.prog wr = _ := fun ty => Lib.run_next_any_at wr w.heap.size s pos ty hit hp
      obtain ⟨f, rfl⟩ : ∃ g, f = g + 1 := ⟨f - 1, by omega⟩
      have hwp := wd_pos s pos
      have hwl := wd_le s pos hp
      have hit2 := Lib.iterAt_heap wr w.heap.size s pos (pos + (Utf8.decode s pos).2) hit
      have hb2 := Lib.below_iterAt hb (k := w.heap.size) (Nat.le_refl _) s (pos + (Utf8.decode s pos).2)
      have hT2 : Hq (tabs (wr.iterAt w.heap.size s (pos + (Utf8.decode s pos).2))) := hq (tabs_below HT.o hb2 hsz.1 hsz.2)
      have HSz2 := hq (Lib.iterAt_size wr w.heap.size s (pos + (Utf8.decode s pos).2))
      have HW : Hq (wd s pos = (Utf8.decode s pos).2) := hq rfl
      have k1 := dec_lt s pos 32 (by omega)
      have k2 := dec_is s pos 127 (by omega)
      have HB2 := hq hb2
      have HIT := hq hit2
      have HIT0 := hq hit
      clear hit2 hb2 hit
      by_cases h32 : byt s pos < 32
      · have hbad : badC s true pos = true := by unfold badC; rw [decide_eq_true h32]; simp
        have HN : Hq (V = pos) := hq (by rw [hv.o, clnM_bad s true f pos hp hbad])
        have e1 : (((Utf8.decode s pos).1 : Nat) : Int) < 32 := by have := k1.2 h32; omega
        clear hv k1 k2 h32 hbad
        go_wp2_with fail
        go_ret2
        exact ⟨by rw [HN.o, decide_eq_false (by omega)]; rfl, HB2.o⟩
      · have e1 : ¬ (((Utf8.decode s pos).1 : Nat) : Int) < 32 := by have := mt k1.1 h32; omega
        by_cases h127 : byt s pos = 127
        · have hbad : badC s true pos = true := by unfold badC; rw [h127]; simp
          have HN : Hq (V = pos) := hq (by rw [hv.o, clnM_bad s true f pos hp hbad])
          have e2 : ((((Utf8.decode s pos).1 : Nat) : Int) == 127) = true := by rw [k2.2 h127]; rfl
          clear hv k1 k2 h32 hbad h127
          go_wp2_with fail
          go_ret2
          exact ⟨by rw [HN.o, decide_eq_false (by omega)]; rfl, HB2.o⟩
        · have e2 : ((((Utf8.decode s pos).1 : Nat) : Int) == 127) = false := beq_eq_false_iff_ne.2 (by have := mt k2.1 h127; omega)
          have HBR := hq (ybroken_any s pos _ hT2.o hs hp)
          have hbd : badC s true pos = decide (bad s pos) := by
            unfold badC
            rw [decide_eq_false h32, beq_eq_false_iff_ne.2 h127]; simp
          have HBD := hq hbd
          clear h32 h127 k1 k2 hbd
          go_wp2_with fail
          refine HBR.o.mono ?_
          rintro e w2 ⟨rfl, hb3⟩
          have hit3 : w2.heap[w.heap.size]? = some (.stringIter s (pos + (Utf8.decode s pos).2)) := (hb3.block _ (by rw [HSz2.o]; exact hlt)).trans HIT.o
          have hb4 := HB2.o.trans (hb3.mono (by rw [HSz2.o]; omega))
          clear hb3 HBR
          cases hD : decide (bad s pos) with
          | true =>
            have HN : Hq (V = pos) := hq (by rw [hv.o, clnM_bad s true f pos hp (by rw [HBD.o]; exact hD)])
            clear hD HBD hv hit3
            go_wp2_with fail
            go_ret2
            exact ⟨by rw [HN.o, decide_eq_false (by omega)]; rfl, hb4⟩
          | false =>
            have HN : Hq (V = clnM s true f (pos + wd s pos)) := hq (by rw [hv.o, clnM_step s true f pos hp (by rw [HBD.o]; exact hD)])
            have hm1 : Hq (w2.iterPos w.heap.size = pos + wd s pos) := hq (by simp only [World.iterPos, hit3]; rfl)
            have hm0 : Hq (wr.iterPos w.heap.size = pos) := hq (by simp only [World.iterPos, HIT0.o])
            clear hD HBD hv
            go_wp2_with fail
            go_roundw
            case rel => exact ⟨pos + wd s pos, f, hwl, hit3, hb4, HN, by omega⟩
            case measure => rw [hm1.o, hm0.o]; omega
    · have hnx : ∀ ty, (Instr.next (.pointer (some ⟨w.heap.size, 0, none⟩)) true ty).run Tryd.prog wr = _ := fun ty => Lib.run_next_end_at wr w.heap.size s pos ty hit hp
      have HN : Hq (V = s.size) := hq (by rw [hv.o, clnM_end s true f pos hp])
      clear hv
      go_wp2_with fail
      go_ret2
      exact ⟨by rw [HN.o, decide_eq_true rfl]; rfl, hb⟩
end Go.Proofs.YtekihjffefokjaaDoor
