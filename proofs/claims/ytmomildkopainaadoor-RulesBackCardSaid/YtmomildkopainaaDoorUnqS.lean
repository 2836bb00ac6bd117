/-
  WALKS: quote.scan, as End calls it.
-/
import Derived.Test.YtmomildkopainaaDoorUnqA
import Derived.Test.YtmomildkopainaaDoorUnqB
namespace Go.Proofs.YtmomildkopainaaDoor
open Go.RowKit

def ScanPost (r : Nat × Int) (w : World) (e : Ending) (w' : World) : Prop := e = .returned (.tuple #[.int .i64 (r.1 : Int), .int .i64 r.2]) ∧ Below w.heap.size w w'
/-- where the scan ends, whatever has been read before -/
def scanEnd (s : ByteArray) (f p : Nat) : Nat × Int := ((scanGo s f p []).1, (scanGo s f p []).2.1)
theorem scanGo_acc (s : ByteArray) : ∀ (f p : Nat) (acc : List Nat), (scanGo s f p acc).1 = (scanGo s f p []).1 ∧ (scanGo s f p acc).2.1 = (scanGo s f p []).2.1 ∧ (scanGo s f p acc).2.2 = acc ++ (scanGo s f p []).2.2
  | 0, p, acc => ⟨rfl, rfl, by simp [scanGo]⟩
  | f + 1, p, acc => by
    unfold scanGo
    by_cases h : p < s.size
    · rw [if_pos h, if_pos h]
      by_cases h34 : byt s p = 34
      · rw [if_pos h34, if_pos h34]; exact ⟨rfl, rfl, by simp⟩
      · rw [if_neg h34, if_neg h34]
        cases partM s p with
        | none => exact ⟨rfl, rfl, by simp⟩
        | some x =>
          obtain ⟨a1, a2, a3⟩ := scanGo_acc s f (p + x.2) (acc ++ [x.1])
          obtain ⟨b1, b2, b3⟩ := scanGo_acc s f (p + x.2) ([] ++ [x.1])
          simp only
          exact ⟨a1.trans b1.symm, a2.trans b2.symm, by rw [a3, b3]; simp⟩
    · rw [if_neg h, if_neg h]; exact ⟨rfl, rfl, by simp⟩

set_option maxHeartbeats 400000 in
theorem end1_any (r : Nat) (w : World) : Calls Tryd.prog 87 #[.int .i32 (r : Int)] w fun e w' => e = .returned (.tuple #[]) ∧ w = w' := by
  go_enter Tryd.func87, Tryd.ntmps87
  go_wp2_with fail
  go_end0
  exact ⟨rfl, rfl⟩

set_option maxHeartbeats 1000000 in
set_option maxRecDepth 1000000 in
theorem scan_end (s : ByteArray) (a : Nat) (w : World) (hT : tabs w) (ha : a ≤ s.size) (hs : s.size ≤ 1099511627776) :
    Calls Tryd.prog 86 #[.string s, .int .i64 (a : Int), .func (.func 87) #[] #[]] w (ScanPost ((scanM s a).1, (scanM s a).2.1) w) := by
  have HT := hq hT
  clear hT
  by_cases hq0 : a < s.size ∧ byt s a = 34
  · have HM : Hq ((((scanM s a).1, (scanM s a).2.1) : Nat × Int) = scanEnd s s.size (a + 1)) := hq (by unfold scanM scanEnd; rw [if_pos hq0])
    obtain ⟨hlt, h34⟩ := hq0
    have y0 : ((s[a]'hlt).toNat : Int) = (byt s a : Int) := by rw [byt_eq s a hlt]
    have e1 : ((byt s a : Int) != 34) = false := by rw [h34]; rfl
    have e0 : ((a : Int) == (s.size : Int)) = false := beq_eq_false_iff_ne.2 (by omega)
    generalize (((scanM s a).1, (scanM s a).2.1) : Nat × Int) = R at *
    generalize byt s a = c at *
    clear h34
    go_enter Tryd.func86, Tryd.ntmps86
    go_wp2_with fail
    have hus : (s.extract (a + 1) s.size).size = s.size - (a + 1) := by rw [ByteArray.size_extract]; omega
    have hud : ∀ p, p < s.size - (a + 1) → Utf8.decode (s.extract (a + 1) s.size) p = Utf8.decode s (a + 1 + p) := fun p hp => dec_cut s (a + 1) s.size p (Nat.le_refl _) (.inl rfl) (by omega)
    generalize s.extract (a + 1) s.size = u at *
    have HUD := hq hud
    have hu1 : u.size ≤ s.size - (a + 1) := by omega
    have hu2 : s.size - (a + 1) ≤ u.size := by omega
    clear hus hud
    go_loopw [8] (fun nx wr => ∃ (pos k f : Nat), pos ≤ u.size ∧ nx = .int .i64 k ∧ a + 1 + pos ≤ k ∧ k ≤ s.size ∧ Hq (∀ q, a + 1 + pos ≤ q → q < k → byt s q < 128) ∧ Hq (R = scanEnd s f k) ∧ s.size ≤ k + f ∧ wr.heap[w.heap.size]? = some (.stringIter u pos) ∧ Below w.heap.size w wr)
      (fun _ wr => u.size - wr.iterPos w.heap.size)
    case atStart => exact ⟨0, a + 1, s.size, by omega, rfl, by omega, by omega, hq (fun q h1 h2 => by omega), HM, by omega, World.iter_heap w u 0, (Below.refl _ _).alloc (Nat.le_refl _) _⟩
    case round =>
      obtain ⟨pos, k, f, hps, rfl, hk1, hk2, hasc, hR, hf, hit, hb⟩ := hrel
      clear HM
      have hlt2 : w.heap.size < wr.heap.size := (Array.getElem?_eq_some_iff.1 hit).1
      by_cases hp : pos < u.size
      · have hnx : ∀ ty, (Instr.next (.pointer (some ⟨w.heap.size, 0, none⟩)) true ty).run Tryd.prog wr = _ := fun ty => Lib.run_next_any_at wr w.heap.size u pos ty hit hp
        have hit2 := Lib.iterAt_heap wr w.heap.size u pos (pos + (Utf8.decode u pos).2) hit
        have hb2 := Lib.below_iterAt hb (k := w.heap.size) (Nat.le_refl _) u (pos + (Utf8.decode u pos).2)
        have hdl := decode_le u pos
        have hdc := HUD.o pos (by omega)
        by_cases hin : a + 1 + pos < k
        · have hw1 : (Utf8.decode u pos).2 = 1 := by rw [hdc, dec_low s _ (hasc.o _ (Nat.le_refl _) hin)]
          have HIT : Hq ((wr.iterAt w.heap.size u (pos + (Utf8.decode u pos).2)).heap[w.heap.size]? = some (.stringIter u (pos + 1))) := hq (by rw [hw1] at hit2 ⊢; exact hit2)
          have HPOS : Hq ((wr.iterAt w.heap.size u (pos + (Utf8.decode u pos).2)).iterPos w.heap.size = pos + 1) := hq (by simp only [World.iterPos, HIT.o])
          have HPOS0 : Hq (wr.iterPos w.heap.size = pos) := hq (by simp only [World.iterPos, hit])
          clear hw1 hit2 hit hdc
          go_wp2_with fail
          go_roundw
          case rel => exact ⟨pos + 1, k, f, by omega, rfl, by omega, hk2, hq (fun q h1 h2 => hasc.o q (by omega) h2), hR, hf, HIT.o, hb2⟩
          case measure => rw [HPOS.o, HPOS0.o]; omega
        · obtain rfl : k = a + 1 + pos := by omega
          have hks : a + 1 + pos < s.size := by omega
          obtain ⟨f, rfl⟩ : ∃ g, f = g + 1 := ⟨f - 1, by omega⟩
          have hC34 := dec_is s (a + 1 + pos) 34 (by omega)
          rw [← hdc] at hC34
          have hpart := part_any (s.extract (a + 1 + pos) s.size)
          have hd0 : Utf8.decode (s.extract (a + 1 + pos) s.size) 0 = Utf8.decode u pos := by
            rw [hdc]
            have := dec_cut s (a + 1 + pos) s.size 0 (Nat.le_refl _) (.inl rfl) (by omega)
            simpa using this
          rw [hd0, partM_sub s _ hks] at hpart
          have hxs : (s.extract (a + 1 + pos) s.size).size = s.size - (a + 1 + pos) := by rw [ByteArray.size_extract]; omega
          have HPT : Hq (∀ W, tabs W → Calls Tryd.prog 116 #[.string (s.extract (a + 1 + pos) s.size), .int .i32 ((Utf8.decode u pos).1 : Int)] W (EscPost (partM s (a + 1 + pos)) W)) := hq (fun W hW => hpart W hW (by omega) (by omega))
          have HR2 : Hq (R = if byt s (a + 1 + pos) = 34 then (a + 1 + pos + 1, 0) else match partM s (a + 1 + pos) with | none => (a + 1 + pos, 2) | some x => scanEnd s f (a + 1 + pos + x.2)) := hq (by
            rw [hR.o]
            unfold scanEnd
            rw [scanGo, if_pos hks]
            by_cases h34 : byt s (a + 1 + pos) = 34
            · rw [if_pos h34, if_pos h34]
            · rw [if_neg h34, if_neg h34]
              cases partM s (a + 1 + pos) with
              | none => rfl
              | some x =>
                obtain ⟨q1, q2, _⟩ := scanGo_acc s f (a + 1 + pos + x.2) ([] ++ [x.1])
                simp only
                rw [q1, q2])
          have HBD := hq (fun r n => @partM_bd s (a + 1 + pos) r n hks)
          have HAS : Hq (∀ r n, partM s (a + 1 + pos) = some (r, n) → (n = (Utf8.decode u pos).2) ∨ (1 < n ∧ (Utf8.decode u pos).2 = 1 ∧ ∀ q, a + 1 + pos + 1 ≤ q → q < a + 1 + pos + n → byt s q < 128)) := hq (fun r n h => by
            unfold partM at h
            split at h
            · rename_i h92
              right
              have h1 := escM_bd h
              refine ⟨by omega, by rw [hdc, dec_low s _ (by omega)], fun q q1 q2 => ?_⟩
              have := escM_ascii h92 h (q - (a + 1 + pos)) (by omega)
              rwa [show a + 1 + pos + (q - (a + 1 + pos)) = q by omega] at this
            · split at h
              · cases h
              · split at h
                · cases h
                · injection h with h; left; rw [hdc, h])
          have hwd := wd_le u pos hp
          unfold wd at hwd
          have HTB := hq (tabs_grow HT.o hb2)
          have HIT := hq hit2
          have HPOS0 : Hq (wr.iterPos w.heap.size = pos) := hq (by simp only [World.iterPos, hit])
          clear hpart hd0 hxs hR hdc hasc hit hit2
          by_cases h34 : byt s (a + 1 + pos) = 34
          · have HN := hq (HR2.o.trans (if_pos h34))
            have e34 : (((Utf8.decode u pos).1 : Int) == 34) = true := by rw [hC34.2 h34]; rfl
            clear HR2 h34 hC34 HAS HBD HPT
            go_wp2_with fail
            go_ret2
            exact ⟨by rw [HN.o]; rfl, hb2⟩
          · have HR3 := hq (HR2.o.trans (if_neg h34))
            have e34 : (((Utf8.decode u pos).1 : Int) == 34) = false := beq_eq_false_iff_ne.2 (fun h => h34 (hC34.1 (by omega)))
            clear HR2 h34 hC34
            go_wp2_with fail
            refine (HPT.o _ HTB.o).mono ?_
            generalize partM s (a + 1 + pos) = o at *
            cases o with
            | none =>
              rintro e w2 ⟨rfl, hb3⟩
              have hb4 := below_trans hb2 hb3
              have HN : Hq (R = (a + 1 + pos, 2)) := hq HR3.o
              clear HR3 HAS HBD HPT
              go_wp2_with fail
              go_ret2
              exact ⟨by rw [HN.o]; rfl, hb4⟩
            | some x =>
              obtain ⟨r, n⟩ := x
              rintro e w2 ⟨rfl, hb3⟩
              simp only [Option.getD_some]
              have hb4 := below_trans hb2 hb3
              obtain ⟨p1, p2, p3, p4, _⟩ := HBD.o r n rfl
              have HN : Hq (R = scanEnd s f (a + 1 + pos + n)) := hq HR3.o
              have hit3 : w2.heap[w.heap.size]? = some (.stringIter u (pos + (Utf8.decode u pos).2)) := (hb3.block w.heap.size (by rw [Lib.iterAt_size]; exact hlt2)).trans HIT.o
              have HIT3 := hq hit3
              have HPOS3 : Hq (w2.iterPos w.heap.size = pos + (Utf8.decode u pos).2) := hq (by simp only [World.iterPos, hit3])
              have hn0 : ((n : Int) == 0) = false := beq_eq_false_iff_ne.2 (by omega)
              have HAS2 := hq (HAS.o r n rfl)
              have hwp := wd_pos u pos
              unfold wd at hwp
              clear HR3 HAS HBD HPT hit3
              go_wp2_with fail
              refine (end1_any r _).mono ?_
              rintro e w3 ⟨rfl, hw3⟩
              obtain rfl := hw3
              have hnw : a + 1 + (pos + (Utf8.decode u pos).2) ≤ a + 1 + pos + n := by rcases HAS2.o with h | h <;> omega
              have HASC : Hq (∀ q, a + 1 + (pos + (Utf8.decode u pos).2) ≤ q → q < a + 1 + pos + n → byt s q < 128) := hq (fun q q1 q2 => by
                rcases HAS2.o with h | ⟨_, h1, h2⟩
                · omega
                · exact h2 q (by omega) q2)
              go_wp2_with fail
              go_roundw
              case rel => exact ⟨pos + (Utf8.decode u pos).2, a + 1 + pos + n, f, hwd, int_eq (by omega), hnw, p4, HASC, HN, by omega, HIT3.o, hb4⟩
              case measure => rw [HPOS3.o, HPOS0.o]; omega
      · have hnx : ∀ ty, (Instr.next (.pointer (some ⟨w.heap.size, 0, none⟩)) true ty).run Tryd.prog wr = _ := fun ty => Lib.run_next_end_at wr w.heap.size u pos ty hit hp
        have hk3 : k = s.size := by omega
        have HN : Hq (R = (s.size, 2)) := hq (by
          rw [hR.o, hk3]
          unfold scanEnd
          cases f with
          | zero => rfl
          | succ f => rw [scanGo, if_neg (Nat.lt_irrefl _)])
        clear hR hasc
        go_wp2_with fail
        go_ret2
        exact ⟨by rw [HN.o]; rfl, hb⟩
  · have HM : Hq ((((scanM s a).1, (scanM s a).2.1) : Nat × Int) = (a, 2)) := hq (by unfold scanM; rw [if_neg hq0])
    generalize (((scanM s a).1, (scanM s a).2.1) : Nat × Int) = R at *
    by_cases hlt : a < s.size
    · have y0 : ((s[a]'hlt).toNat : Int) = (byt s a : Int) := by rw [byt_eq s a hlt]
      have e1 : ((byt s a : Int) != 34) = true := bne_iff_ne.2 (fun h => hq0 ⟨hlt, by omega⟩)
      generalize byt s a = c at *
      clear hq0
      go_enter Tryd.func86, Tryd.ntmps86
      go_wp2_with fail
      go_ret2
      exact ⟨by rw [HM.o]; rfl, Below.refl _ _⟩
    · obtain rfl : a = s.size := by omega
      clear hq0
      go_enter Tryd.func86, Tryd.ntmps86
      go_wp2_with fail
      go_ret2
      exact ⟨by rw [HM.o]; rfl, Below.refl _ _⟩
end Go.Proofs.YtmomildkopainaaDoor
