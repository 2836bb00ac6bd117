/-
  WALKS: runes.Place.
-/
import Derived.Test.YtmecolgceeegpaaDoorRunesValid
import Derived.Test.YtmecolgceeegpaaDoorRunesLines
import Derived.Lib.LastIndexByte
namespace Go.Proofs.YtmecolgceeegpaaDoor
open Go.RowKit

theorem ext_byt (s : ByteArray) (n j : Nat) (hn : n ≤ s.size) (hj : j < n) : byt (s.extract 0 n) j = byt s j := by
  have hz : (s.extract 0 n).size = n := by rw [ByteArray.size_extract]; omega
  rw [byt_eq _ j (by omega), byt_eq _ j (by omega), ByteArray.getElem_extract]
  simp
theorem toList_take_snoc (s : ByteArray) (n : Nat) (hn : n < s.size) : (s.extract 0 (n + 1)).data.toList = (s.extract 0 n).data.toList ++ [s[n]] := by
  simp only [ByteArray.data_extract, Array.toList_extract, List.extract, Nat.sub_zero, List.drop_zero]
  rw [List.take_succ_eq_append_getElem (by simpa using hn)]
  rfl
theorem count_lfs (s : ByteArray) : ∀ (n : Nat), n ≤ s.size → Lib.countByte (s.extract 0 n).data.toList 10 = lfs s n
  | 0, _ => by simp [Lib.countByte, lfs]
  | n + 1, h => by
    rw [toList_take_snoc s n (by omega)]
    have ih := count_lfs s n (by omega)
    unfold Lib.countByte at *
    rw [List.count_append, ih, lfs_succ, byt_eq s n (by omega)]
    by_cases hb : s[n] = 10
    · rw [hb]; simp
    · rw [if_neg (by intro h'; apply hb; apply UInt8.toNat_inj.1; simpa using h')]
      simp [hb]
theorem lastIdx_lst (s : ByteArray) (n : Nat) (hn : n ≤ s.size) : ∀ (k : Nat), k ≤ n → 1 + Lib.lastIdx (s.extract 0 n) 10 k = (lst s k : Int)
  | 0, _ => by simp [Lib.lastIdx, lst]
  | k + 1, h => by
    have ih := lastIdx_lst s n hn k (by omega)
    have hb : ((s.extract 0 n).data[k]!).toNat = byt s k := ext_byt s n k hn (by omega)
    unfold Lib.lastIdx
    rw [hb, lst_succ]
    by_cases h10 : byt s k = 10
    · rw [if_pos (by omega), if_pos h10]; push_cast; omega
    · rw [if_neg (by omega), if_neg h10]; exact ih
theorem last_lst (s : ByteArray) (n : Nat) (hn : n ≤ s.size) : 1 + Lib.lastIndexByte (s.extract 0 n) 10 = (lst s n : Int) := by
  have hz : (s.extract 0 n).size = n := by rw [ByteArray.size_extract]; omega
  unfold Lib.lastIndexByte
  rw [hz]
  exact lastIdx_lst s n hn n (Nat.le_refl _)

theorem ret_three {a a' b b' c c' : Value} (h : a = a') (h' : b = b') (h'' : c = c') : Ending.returned (.tuple #[a, b, c]) = Ending.returned (.tuple #[a', b', c']) := by rw [h, h', h'']
/-- what Place answers -/
def plc (s : ByteArray) (a : Int) : Int × Int × Bool := if a < 0 ∨ (s.size : Int) < a then (0, 0, false) else (1 + lfs s a.toNat, 1 + cols s a.toNat s.size (lst s a.toNat), true)

set_option maxHeartbeats 400000 in
set_option maxRecDepth 1000000 in
theorem place_any (s : ByteArray) (a : Int) (w : World) (hT : tabs w) (hs : s.size ≤ 1099511627776) (ha : -9223372036854775808 ≤ a ∧ a ≤ 9223372036854775807) :
    Calls Tryd.prog 16 #[.string s, .int .i64 a] w fun e w' => e = .returned (.tuple #[.int .i64 (plc s a).1, .int .i64 (plc s a).2.1, .bool (plc s a).2.2]) ∧ Below w.heap.size w w' := by
  have HT := Lib.hid hT
  have hsz := tabs_size hT
  clear hT
  have HS : Hid (s.size ≤ maxLen) := Lib.hid (by unfold maxLen; omega)
  obtain ⟨ha1, ha2⟩ := ha
  generalize hV : plc s a = V
  have HV := Lib.hid hV
  clear hV
  by_cases h0 : a < 0
  · go_enter Tryd.func16, Tryd.ntmps16
    go_wp2
    go_ret3
    have := HV.out
    unfold plc at this
    rw [if_pos (.inl h0)] at this
    subst this
    exact ⟨rfl, Below.refl _ _⟩
  · by_cases h1 : (s.size : Int) < a
    · go_enter Tryd.func16, Tryd.ntmps16
      go_wp2
      go_ret3
      have := HV.out
      unfold plc at this
      rw [if_pos (.inr h1)] at this
      subst this
      exact ⟨rfl, Below.refl _ _⟩
    · obtain ⟨n, rfl⟩ := Int.eq_ofNat_of_zero_le (by omega : 0 ≤ a)
      have hns : n ≤ s.size := by omega
      go_enter Tryd.func16, Tryd.ntmps16
      have hll := lst_le s n
      have hlf := lfs_le s n
      go_wp2_with fail
      refine (Tryd.strings_Count_one (s.extract 0 n) 10 _).mono ?_
      rintro e w1 ⟨rfl, hw1⟩
      obtain rfl := hw1.symm
      rw [count_lfs s n hns]
      go_wp2_with fail
      refine (Tryd.strings_LastIndexByte (s.extract 0 n) 10 (by rw [ByteArray.size_extract]; omega) _).mono ?_
      rintro e w1 ⟨rfl, hw1⟩
      obtain rfl := hw1.symm
      have hq := last_lst s n hns
      generalize hqq : Lib.lastIndexByte (s.extract 0 n) 10 = q at *
      clear hqq
      go_wp2
      clear hq
      go_loopw [9] (fun c wr => ∃ (pos f k : Nat), c = .int .i64 ((1 + k : Nat) : Int) ∧ wr.heap[w.heap.size]? = some (.stringIter (s.extract (lst s n) s.size) pos) ∧ Below w.heap.size w wr ∧ k + cols s n f (lst s n + pos) = cols s n s.size (lst s n) ∧ s.size ≤ pos + f ∧ k ≤ pos ∧ lst s n + pos ≤ s.size)
        (fun _ wr => s.size - wr.iterPos w.heap.size)
      case atStart => exact ⟨0, s.size, 0, by simp, World.iter_heap w _ 0, (Below.refl _ _).alloc (Nat.le_refl _) _, by simp, by omega, by omega, by omega⟩
      case round =>
        obtain ⟨pos, f, k, rfl, hit, hb, hv, hf, hk, hps⟩ := hrel
        have hlt : w.heap.size < wr.heap.size := (Array.getElem?_eq_some_iff.1 hit).1
        have hez : (s.extract (lst s n) s.size).size = s.size - lst s n := by rw [ByteArray.size_extract]; omega
        have HVl := Lib.hid hv
        clear hv
        by_cases hp : lst s n + pos < s.size
        · have hnx : ∀ ty, (Instr.next (.pointer (some ⟨w.heap.size, 0, none⟩)) true ty).run Tryd.prog wr = _ := fun ty => Lib.run_next_any_at wr w.heap.size (s.extract (lst s n) s.size) pos ty hit (by omega)
          have hdc : Utf8.decode (s.extract (lst s n) s.size) pos = Utf8.decode s (lst s n + pos) := dec_cut s _ _ _ (Nat.le_refl _) (.inl rfl) hp
          rw [hdc] at hnx
          clear hdc hez
          obtain ⟨f, rfl⟩ : ∃ g, f = g + 1 := ⟨f - 1, by omega⟩
          have hwp := wd_pos s (lst s n + pos)
          have hwl := wd_le s (lst s n + pos) hp
          have hdl := decode_le s (lst s n + pos)
          have hw1 : wd s (lst s n + pos) = (Utf8.decode s (lst s n + pos)).2 := rfl
          rw [hw1] at hwp hwl
          have HW := Lib.hid hw1
          clear hw1
          have hit2 := Lib.iterAt_heap wr w.heap.size (s.extract (lst s n) s.size) pos (pos + (Utf8.decode s (lst s n + pos)).2) hit
          have hb2 := Lib.below_iterAt hb (k := w.heap.size) (Nat.le_refl _) (s.extract (lst s n) s.size) (pos + (Utf8.decode s (lst s n + pos)).2)
          have hT2 : Hid (tabs (wr.iterAt w.heap.size (s.extract (lst s n) s.size) (pos + (Utf8.decode s (lst s n + pos)).2))) := Lib.hid (tabs_below HT.out hb2 hsz.1 hsz.2)
          have HSz2 := Lib.hid (Lib.iterAt_size wr w.heap.size (s.extract (lst s n) s.size) (pos + (Utf8.decode s (lst s n + pos)).2))
          have HN : Hid (nxt s ((lst s n : Int) + (pos : Int)) = (((Utf8.decode s (lst s n + pos)).1 : Int), ((Utf8.decode s (lst s n + pos)).2 : Int))) := Lib.hid (by
            unfold nxt; rw [if_neg (by omega), show ((lst s n : Int) + (pos : Int)).toNat = lst s n + pos by omega])
          go_wp2_with fail
          refine (next_any s ((lst s n : Int) + (pos : Int)) _ hT2.out HS.out (by omega)).mono ?_
          rintro e w' ⟨rfl, hb3⟩
          have hit3 : w'.heap[w.heap.size]? = some (.stringIter (s.extract (lst s n) s.size) (pos + (Utf8.decode s (lst s n + pos)).2)) := (hb3.block _ (by rw [HSz2.out]; exact hlt)).trans hit2
          have hb4 := hb2.trans (hb3.mono (by rw [HSz2.out]; omega))
          rw [HN.out]
          by_cases hw : lst s n + pos + (Utf8.decode s (lst s n + pos)).2 ≤ n
          · have hr := HVl.out
            rw [cols_succ] at hr
            rw [if_pos ⟨hp, by rw [HW.out]; exact hw⟩] at hr
            have HR := Lib.hid hr
            clear hr
            go_wp2
            go_roundw
            case rel => exact ⟨pos + (Utf8.decode s (lst s n + pos)).2, f, k + 1, by go_num, hit3, hb4, by have := HR.out; rw [HW.out] at this; rw [← Nat.add_assoc]; omega, by omega, by omega, by omega⟩
            case measure => simp only [World.iterPos, hit3, hit]; omega
          · have hr := HVl.out
            rw [cols_succ] at hr
            rw [if_neg (by rw [HW.out]; omega)] at hr
            have HR := Lib.hid hr
            clear hr
            go_wp2
            go_ret3
            have := HV.out
            unfold plc at this
            rw [if_neg (by omega)] at this
            subst this
            exact ⟨ret_three rfl (int_eq (by rw [Int.toNat_natCast, ← HR.out]; simp)) rfl, hb4⟩
        · have hnx : ∀ ty, (Instr.next (.pointer (some ⟨w.heap.size, 0, none⟩)) true ty).run Tryd.prog wr = _ := fun ty => Lib.run_next_end_at wr w.heap.size (s.extract (lst s n) s.size) pos ty hit (by omega)
          have hr := HVl.out
          have hc0 : cols s n f (lst s n + pos) = 0 := by
            cases f with
            | zero => rfl
            | succ f => unfold cols; rw [if_neg (by omega)]
          rw [hc0] at hr
          have HR := Lib.hid hr
          clear hr hc0 hez
          go_wp2
          go_ret3
          have := HV.out
          unfold plc at this
          rw [if_neg (by omega)] at this
          subst this
          exact ⟨ret_three rfl (int_eq (by rw [Int.toNat_natCast, ← HR.out]; simp)) rfl, hb⟩
end Go.Proofs.YtmecolgceeegpaaDoor
