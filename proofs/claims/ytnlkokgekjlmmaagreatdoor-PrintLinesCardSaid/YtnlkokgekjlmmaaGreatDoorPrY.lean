/-
  WALK: a text of JSON without the blanks and line feeds outside of its strings (scarflaw08.bare).
-/
import Derived.Test.YtnlkokgekjlmmaaGreatDoorPrV
import Derived.Test.YtnlkokgekjlmmaaGreatDoorRowU8
import Derived.Deep.LoopGhost
namespace Go.Proofs.YtnlkokgekjlmmaaGreatDoor
open Go.RowKit

theorem bare_last (b : Bool) (c : UInt8) : bareM b [c] = if ((if c = 34 then !b else b) || (c != 32 && c != 10)) = true then [c] else [] := by rw [bareM]
/-- a step of 'bare' at a place -/
theorem bare_at {A : ByteArray} {k : Nat} (h : k < A.size) : A.data.toList.drop k = A[k] :: A.data.toList.drop (k + 1) := by
  have hl : k < A.data.toList.length := by rw [Array.length_toList]; exact h
  rw [List.drop_eq_getElem_cons hl]; rfl
theorem bare_end {A : ByteArray} {k : Nat} (h : A.size ≤ k) : A.data.toList.drop k = [] := List.drop_eq_nil_of_le (by rw [Array.length_toList]; exact h)
theorem bare_one {A : ByteArray} {k : Nat} (h : k < A.size) {b : Bool} (hn : ¬ (b = true ∧ A[k] = 92 ∧ k + 1 < A.size)) : bareM b (A.data.toList.drop k) = (if ((if A[k] = 34 then !b else b) || (A[k] != 32 && A[k] != 10)) = true then [A[k]] else []) ++ bareM (if A[k] = 34 then !b else b) (A.data.toList.drop (k + 1)) := by
  rw [bare_at h]
  by_cases h2 : k + 1 < A.size
  · exact bare_step (fun e => hn ⟨e.1, e.2, h2⟩) _
  · rw [bare_end (k := k + 1) (by omega), bare_last, bareM, List.append_nil]
theorem bare_two {A : ByteArray} {k : Nat} (h : k + 1 < A.size) (hc : (A[k]'(Nat.lt_of_succ_lt h)) = 92) : bareM true (A.data.toList.drop k) = 92 :: A[k + 1] :: bareM true (A.data.toList.drop (k + 2)) := by
  rw [bare_at (Nat.lt_of_succ_lt h), bare_at h, hc, bare_esc]
theorem u8_eq (c : UInt8) (n : Nat) (hn : n < 256) : ((c.toNat : Int) == (n : Int)) = decide (c = UInt8.ofNat n) := by
  by_cases h : c = UInt8.ofNat n
  · rw [decide_eq_true h, h, UInt8.toNat_ofNat_of_lt' hn]; simp
  · rw [decide_eq_false h, beq_eq_false_iff_ne]
    intro e
    exact h (UInt8.toNat_inj.1 (by rw [UInt8.toNat_ofNat_of_lt' hn]; omega))

set_option maxHeartbeats 16000000 in
set_option maxRecDepth 1000000 in
theorem bare_any (l : Bs) (w : World) (hl : l.length ≤ 1099511627776) (hne : bareM false l ≠ []) : Calls Tryz.prog 25 #[.string (st l)] w fun e w' => e = .returned (.string (st (bareM false l))) ∧ Below w.heap.size w w' := by
  obtain ⟨i0, hi, hz0, hz1, hz2⟩ := info_parts infoU8
  have HP : Hq (∀ q W', q = bareM false l → Below w.heap.size w W' → (fun (e : Ending) (w' : World) => e = .returned (.string (st (bareM false l))) ∧ Below w.heap.size w w') (.returned (.string (st q))) W') := hq (fun q W' h1 h2 => ⟨by rw [h1], h2⟩)
  generalize (fun (e : Ending) (w' : World) => e = .returned (.string (st (bareM false l))) ∧ Below w.heap.size w w') = PP at *
  have hAl : (st l).data.toList = l := st_list l
  have hAs : (st l).size = l.length := st_size l
  have HS0 : Hq (bareM false ((st l).data.toList.drop 0) = bareM false l) := hq (by rw [hAl]; rfl)
  have HNE := hq hne
  generalize bareM false l = G at *
  generalize st l = A at *
  have hA : A.size ≤ 1099511627776 := by omega
  clear hAl hAs hne hl
  go_enter Tryz.func25, Tryz.ntmps25
  go_wp2_with fail
  go_loopg [3, 4, 5] A.size (fun g v b i wr => ∃ (k : Nat) (ib : Bool) (L : Bs), i = .int .i64 (k : Int) ∧ b = .bool ib ∧ k + g = A.size ∧ L.length ≤ k ∧ Hq (L ++ bareM ib (A.data.toList.drop k) = G) ∧ Hq (RowIs wr w.heap.size v L) ∧ Hq (L = [] → v = .slice none 0 0) ∧ Hq (Below w.heap.size w wr))
  case atStart => exact ⟨0, false, [], rfl, rfl, by omega, Nat.le_refl _, hq HS0.o, hq (World.ownsRow_nil _ _ _ _), hq (fun _ => rfl), hq (Below.refl _ _)⟩
  case round =>
    obtain ⟨k, ib, L, rfl, rfl, hk, hLk, hrel2, hrow, hnil, hb⟩ := hrel
    by_cases hlt : k < A.size
    · have hz : (k : Int) < (A.size : Int) := by omega
      have hsz := hb.o.size
      have HR1 : Hq (∀ m, m ≤ 6 → L.length + m ≤ maxLen) := hq (fun m hm => by unfold maxLen; omega)
      have HR2 : Hq (∀ m, m ≤ 6 → (L.length + m) * 1 ≤ 140737488355328) := hq (fun m hm => by omega)
      have HOT := hq (row_other hrow.o)
      by_cases hc : ib = true ∧ A[k] = 92 ∧ k + 1 < A.size
      · obtain ⟨rfl, hc92, hk1⟩ := hc
        have HT := hq (bare_two hk1 hc92)
        have hzz : (k : Int) + 1 < (A.size : Int) := by omega
        have hto : ((k : Int) + 1).toNat = k + 1 := by omega
        have hcv : (A[k].toNat : Int) = 92 := by rw [hc92]; rfl
        obtain ⟨d, hd⟩ : ∃ d, A[k + 1]'hk1 = d := ⟨_, rfl⟩
        have hdv : ((A[k + 1]'hk1).toNat : Int) = (d.toNat : Int) := by rw [hd]
        rw [hd] at HT
        have HT' := hq HT.o
        clear hd hc92 HT
        go_wp2_with (at_builtin; refine wpList_append_own _ rfl _ _ 78 rfl w.heap.size 5 i0 (.int .u8 0) 1 1 Tryz.underlying78 hi hz0 hz1 hz2 rfl (by decide) _ _ _ rfl (hrow.o.alloc _) ⟨wr.heap.size, 0, none⟩ 2 2 [.int .u8 92, .int .u8 (d.toNat : Int)] rfl rfl (cells_new _ [.int .u8 92, .int .u8 (d.toNat : Int)] _) (u8_one ⟨[92, (d.toNat : Int)], rfl⟩) (HR1.o 2 (by omega)) (HR2.o 2 (by omega)) (by rw [World.size_alloc]; omega) ?_)
        intro v' w2 hown' hgrow _
        have hrow2 : RowIs w2 w.heap.size v' (L ++ [92, d]) := rel_app hown' rfl rfl rfl
        have hb2 : Below w.heap.size w w2 := (hb.o.alloc hsz _).grown hgrow (by rw [World.size_alloc]; omega) HOT.o
        have HROW := hq hrow2
        have HB2 := hq hb2
        clear hown' hgrow hrow2 hb2
        go_wp2_with fail
        go_roundg (gk - 2)
        case rel => exact ⟨k + 2, true, L ++ [92, d], int_eq (by omega), rfl, by omega, by rw [List.length_append]; simp only [List.length_cons, List.length_nil]; omega, hq (by rw [← hrel2.o, HT'.o]; simp), HROW, hq (fun h => by simp at h), HB2⟩
        case measure => omega
      · have HT := hq (bare_one hlt hc)
        have HTST : Hq (ib = true → A[k] = 92 → ¬ (k : Int) + 1 < (A.size : Int)) := hq (fun h1 h2 h3 => hc ⟨h1, h2, by omega⟩)
        obtain ⟨ch, hch⟩ : ∃ c, A[k] = c := ⟨_, rfl⟩
        have hy : (A[k].toNat : Int) = (ch.toNat : Int) := by rw [hch]
        rw [hch] at HT HTST
        clear hc hch
        have hcc : ch = 34 ∨ ch = 92 ∨ ch = 32 ∨ ch = 10 ∨ (ch ≠ 34 ∧ ch ≠ 92 ∧ ch ≠ 32 ∧ ch ≠ 10) := by
          by_cases h1 : ch = 34
          · exact .inl h1
          by_cases h2 : ch = 92
          · exact .inr (.inl h2)
          by_cases h3 : ch = 32
          · exact .inr (.inr (.inl h3))
          by_cases h4 : ch = 10
          · exact .inr (.inr (.inr (.inl h4)))
          · exact .inr (.inr (.inr (.inr ⟨h1, h2, h3, h4⟩)))
        have hnat : ∀ n : UInt8, ch ≠ n → ((ch.toNat : Int) == (n.toNat : Int)) = false := fun n h => beq_eq_false_iff_ne.2 (fun e => h (UInt8.toNat_inj.1 (by omega)))
        have HNT := hq hnat
        clear hnat
        rcases hcc with hcc | hcc | hcc | hcc | hcc
        · cases ib with
          | false =>
            subst hcc
            have HTC : Hq (bareM false (A.data.toList.drop k) = 34 :: bareM true (A.data.toList.drop (k + 1))) := hq (by rw [HT.o]; rfl)
            replace hy : (A[k].toNat : Int) = 34 := hy
            clear HT HNT HTST
            go_wp2_with (at_builtin; refine wpList_append_own _ rfl _ _ 78 rfl w.heap.size 5 i0 (.int .u8 0) 1 1 Tryz.underlying78 hi hz0 hz1 hz2 rfl (by decide) _ _ _ rfl (hrow.o.alloc _) ⟨wr.heap.size, 0, none⟩ 1 1 [.int .u8 (34 : Int)] rfl rfl (cells_new _ [.int .u8 (34 : Int)] _) (u8_one ⟨[(34 : Int)], rfl⟩) (HR1.o 1 (by omega)) (HR2.o 1 (by omega)) (by rw [World.size_alloc]; omega) ?_)
            intro v' w2 hown' hgrow _
            have hrow2 : RowIs w2 w.heap.size v' (L ++ [34]) := rel_app hown' rfl rfl rfl
            have HB2 := hq ((hb.o.alloc hsz _).grown hgrow (by rw [World.size_alloc]; omega) HOT.o)
            have HROW := hq hrow2
            clear hown' hgrow hrow2
            go_wp2_with fail
            go_roundg (gk - 1)
            case rel => exact ⟨k + 1, true, L ++ [34], int_eq (by omega), rfl, by omega, by rw [List.length_append]; simp only [List.length_cons, List.length_nil]; omega, hq (by rw [← hrel2.o, HTC.o]; simp), HROW, hq (fun h => by simp at h), HB2⟩
            case measure => omega
          | true =>
            subst hcc
            have HTC : Hq (bareM true (A.data.toList.drop k) = 34 :: bareM false (A.data.toList.drop (k + 1))) := hq (by rw [HT.o]; rfl)
            replace hy : (A[k].toNat : Int) = 34 := hy
            clear HT HNT HTST
            go_wp2_with (at_builtin; refine wpList_append_own _ rfl _ _ 78 rfl w.heap.size 5 i0 (.int .u8 0) 1 1 Tryz.underlying78 hi hz0 hz1 hz2 rfl (by decide) _ _ _ rfl (hrow.o.alloc _) ⟨wr.heap.size, 0, none⟩ 1 1 [.int .u8 (34 : Int)] rfl rfl (cells_new _ [.int .u8 (34 : Int)] _) (u8_one ⟨[(34 : Int)], rfl⟩) (HR1.o 1 (by omega)) (HR2.o 1 (by omega)) (by rw [World.size_alloc]; omega) ?_)
            intro v' w2 hown' hgrow _
            have hrow2 : RowIs w2 w.heap.size v' (L ++ [34]) := rel_app hown' rfl rfl rfl
            have HB2 := hq ((hb.o.alloc hsz _).grown hgrow (by rw [World.size_alloc]; omega) HOT.o)
            have HROW := hq hrow2
            clear hown' hgrow hrow2
            go_wp2_with fail
            go_roundg (gk - 1)
            case rel => exact ⟨k + 1, false, L ++ [34], int_eq (by omega), rfl, by omega, by rw [List.length_append]; simp only [List.length_cons, List.length_nil]; omega, hq (by rw [← hrel2.o, HTC.o]; simp), HROW, hq (fun h => by simp at h), HB2⟩
            case measure => omega
        · cases ib with
          | false =>
            subst hcc
            have HTC : Hq (bareM false (A.data.toList.drop k) = 92 :: bareM false (A.data.toList.drop (k + 1))) := hq (by rw [HT.o]; rfl)
            replace hy : (A[k].toNat : Int) = 92 := hy
            clear HT HNT HTST
            go_wp2_with (at_builtin; refine wpList_append_own _ rfl _ _ 78 rfl w.heap.size 5 i0 (.int .u8 0) 1 1 Tryz.underlying78 hi hz0 hz1 hz2 rfl (by decide) _ _ _ rfl (hrow.o.alloc _) ⟨wr.heap.size, 0, none⟩ 1 1 [.int .u8 (92 : Int)] rfl rfl (cells_new _ [.int .u8 (92 : Int)] _) (u8_one ⟨[(92 : Int)], rfl⟩) (HR1.o 1 (by omega)) (HR2.o 1 (by omega)) (by rw [World.size_alloc]; omega) ?_)
            intro v' w2 hown' hgrow _
            have hrow2 : RowIs w2 w.heap.size v' (L ++ [92]) := rel_app hown' rfl rfl rfl
            have HB2 := hq ((hb.o.alloc hsz _).grown hgrow (by rw [World.size_alloc]; omega) HOT.o)
            have HROW := hq hrow2
            clear hown' hgrow hrow2
            go_wp2_with fail
            go_roundg (gk - 1)
            case rel => exact ⟨k + 1, false, L ++ [92], int_eq (by omega), rfl, by omega, by rw [List.length_append]; simp only [List.length_cons, List.length_nil]; omega, hq (by rw [← hrel2.o, HTC.o]; simp), HROW, hq (fun h => by simp at h), HB2⟩
            case measure => omega
          | true =>
            subst hcc
            have HTC : Hq (bareM true (A.data.toList.drop k) = 92 :: bareM true (A.data.toList.drop (k + 1))) := hq (by rw [HT.o]; rfl)
            replace hy : (A[k].toNat : Int) = 92 := hy
            have hlen : decide ((k : Int) + 1 < (A.size : Int)) = false := decide_eq_false (HTST.o rfl rfl)
            have hle2 : ¬ (k : Int) + 1 < (A.size : Int) := HTST.o rfl rfl
            clear HT HNT HTST
            go_wp2_with (at_builtin; refine wpList_append_own _ rfl _ _ 78 rfl w.heap.size 5 i0 (.int .u8 0) 1 1 Tryz.underlying78 hi hz0 hz1 hz2 rfl (by decide) _ _ _ rfl (hrow.o.alloc _) ⟨wr.heap.size, 0, none⟩ 1 1 [.int .u8 (92 : Int)] rfl rfl (cells_new _ [.int .u8 (92 : Int)] _) (u8_one ⟨[(92 : Int)], rfl⟩) (HR1.o 1 (by omega)) (HR2.o 1 (by omega)) (by rw [World.size_alloc]; omega) ?_)
            intro v' w2 hown' hgrow _
            have hrow2 : RowIs w2 w.heap.size v' (L ++ [92]) := rel_app hown' rfl rfl rfl
            have HB2 := hq ((hb.o.alloc hsz _).grown hgrow (by rw [World.size_alloc]; omega) HOT.o)
            have HROW := hq hrow2
            clear hown' hgrow hrow2
            go_wp2_with fail
            go_roundg (gk - 1)
            case rel => exact ⟨k + 1, true, L ++ [92], int_eq (by omega), rfl, by omega, by rw [List.length_append]; simp only [List.length_cons, List.length_nil]; omega, hq (by rw [← hrel2.o, HTC.o]; simp), HROW, hq (fun h => by simp at h), HB2⟩
            case measure => omega
        · cases ib with
          | false =>
            subst hcc
            have HTC : Hq (bareM false (A.data.toList.drop k) = bareM false (A.data.toList.drop (k + 1))) := hq (by rw [HT.o]; rfl)
            replace hy : (A[k].toNat : Int) = 32 := hy
            clear HT HNT HTST
            go_wp2_with fail
            go_roundg (gk - 1)
            case rel => exact ⟨k + 1, false, L, int_eq (by omega), rfl, by omega, by omega, hq (by rw [← hrel2.o, HTC.o]), hrow, hnil, hb⟩
            case measure => omega
          | true =>
            subst hcc
            have HTC : Hq (bareM true (A.data.toList.drop k) = 32 :: bareM true (A.data.toList.drop (k + 1))) := hq (by rw [HT.o]; rfl)
            replace hy : (A[k].toNat : Int) = 32 := hy
            clear HT HNT HTST
            go_wp2_with (at_builtin; refine wpList_append_own _ rfl _ _ 78 rfl w.heap.size 5 i0 (.int .u8 0) 1 1 Tryz.underlying78 hi hz0 hz1 hz2 rfl (by decide) _ _ _ rfl (hrow.o.alloc _) ⟨wr.heap.size, 0, none⟩ 1 1 [.int .u8 (32 : Int)] rfl rfl (cells_new _ [.int .u8 (32 : Int)] _) (u8_one ⟨[(32 : Int)], rfl⟩) (HR1.o 1 (by omega)) (HR2.o 1 (by omega)) (by rw [World.size_alloc]; omega) ?_)
            intro v' w2 hown' hgrow _
            have hrow2 : RowIs w2 w.heap.size v' (L ++ [32]) := rel_app hown' rfl rfl rfl
            have HB2 := hq ((hb.o.alloc hsz _).grown hgrow (by rw [World.size_alloc]; omega) HOT.o)
            have HROW := hq hrow2
            clear hown' hgrow hrow2
            go_wp2_with fail
            go_roundg (gk - 1)
            case rel => exact ⟨k + 1, true, L ++ [32], int_eq (by omega), rfl, by omega, by rw [List.length_append]; simp only [List.length_cons, List.length_nil]; omega, hq (by rw [← hrel2.o, HTC.o]; simp), HROW, hq (fun h => by simp at h), HB2⟩
            case measure => omega
        · cases ib with
          | false =>
            subst hcc
            have HTC : Hq (bareM false (A.data.toList.drop k) = bareM false (A.data.toList.drop (k + 1))) := hq (by rw [HT.o]; rfl)
            replace hy : (A[k].toNat : Int) = 10 := hy
            clear HT HNT HTST
            go_wp2_with fail
            go_roundg (gk - 1)
            case rel => exact ⟨k + 1, false, L, int_eq (by omega), rfl, by omega, by omega, hq (by rw [← hrel2.o, HTC.o]), hrow, hnil, hb⟩
            case measure => omega
          | true =>
            subst hcc
            have HTC : Hq (bareM true (A.data.toList.drop k) = 10 :: bareM true (A.data.toList.drop (k + 1))) := hq (by rw [HT.o]; rfl)
            replace hy : (A[k].toNat : Int) = 10 := hy
            clear HT HNT HTST
            go_wp2_with (at_builtin; refine wpList_append_own _ rfl _ _ 78 rfl w.heap.size 5 i0 (.int .u8 0) 1 1 Tryz.underlying78 hi hz0 hz1 hz2 rfl (by decide) _ _ _ rfl (hrow.o.alloc _) ⟨wr.heap.size, 0, none⟩ 1 1 [.int .u8 (10 : Int)] rfl rfl (cells_new _ [.int .u8 (10 : Int)] _) (u8_one ⟨[(10 : Int)], rfl⟩) (HR1.o 1 (by omega)) (HR2.o 1 (by omega)) (by rw [World.size_alloc]; omega) ?_)
            intro v' w2 hown' hgrow _
            have hrow2 : RowIs w2 w.heap.size v' (L ++ [10]) := rel_app hown' rfl rfl rfl
            have HB2 := hq ((hb.o.alloc hsz _).grown hgrow (by rw [World.size_alloc]; omega) HOT.o)
            have HROW := hq hrow2
            clear hown' hgrow hrow2
            go_wp2_with fail
            go_roundg (gk - 1)
            case rel => exact ⟨k + 1, true, L ++ [10], int_eq (by omega), rfl, by omega, by rw [List.length_append]; simp only [List.length_cons, List.length_nil]; omega, hq (by rw [← hrel2.o, HTC.o]; simp), HROW, hq (fun h => by simp at h), HB2⟩
            case measure => omega
        · cases ib with
          | false =>
            obtain ⟨n34, n92, n32, n10⟩ := hcc
            have e34 : ((ch.toNat : Int) == 34) = false := HNT.o 34 n34
            have e92 : ((ch.toNat : Int) == 92) = false := HNT.o 92 n92
            have e32 : ((ch.toNat : Int) != 32) = true := by rw [bne, show ((ch.toNat : Int) == 32) = false from HNT.o 32 n32]; rfl
            have e10 : ((ch.toNat : Int) != 10) = true := by rw [bne, show ((ch.toNat : Int) == 10) = false from HNT.o 10 n10]; rfl
            have HTC : Hq (bareM false (A.data.toList.drop k) = ch :: bareM false (A.data.toList.drop (k + 1))) := hq (by rw [HT.o]; simp [n34, n32, n10])
            clear n34 n92 n32 n10 HT HNT HTST
            go_wp2_with (at_builtin; refine wpList_append_own _ rfl _ _ 78 rfl w.heap.size 5 i0 (.int .u8 0) 1 1 Tryz.underlying78 hi hz0 hz1 hz2 rfl (by decide) _ _ _ rfl (hrow.o.alloc _) ⟨wr.heap.size, 0, none⟩ 1 1 [.int .u8 (ch.toNat : Int)] rfl rfl (cells_new _ [.int .u8 (ch.toNat : Int)] _) (u8_one ⟨[(ch.toNat : Int)], rfl⟩) (HR1.o 1 (by omega)) (HR2.o 1 (by omega)) (by rw [World.size_alloc]; omega) ?_)
            intro v' w2 hown' hgrow _
            have hrow2 : RowIs w2 w.heap.size v' (L ++ [ch]) := rel_app hown' rfl rfl rfl
            have HB2 := hq ((hb.o.alloc hsz _).grown hgrow (by rw [World.size_alloc]; omega) HOT.o)
            have HROW := hq hrow2
            clear hown' hgrow hrow2
            go_wp2_with fail
            go_roundg (gk - 1)
            case rel => exact ⟨k + 1, false, L ++ [ch], int_eq (by omega), rfl, by omega, by rw [List.length_append]; simp only [List.length_cons, List.length_nil]; omega, hq (by rw [← hrel2.o, HTC.o]; simp), HROW, hq (fun h => by simp at h), HB2⟩
            case measure => omega
          | true =>
            obtain ⟨n34, n92, n32, n10⟩ := hcc
            have e34 : ((ch.toNat : Int) == 34) = false := HNT.o 34 n34
            have e92 : ((ch.toNat : Int) == 92) = false := HNT.o 92 n92
            have e32 : ((ch.toNat : Int) != 32) = true := by rw [bne, show ((ch.toNat : Int) == 32) = false from HNT.o 32 n32]; rfl
            have e10 : ((ch.toNat : Int) != 10) = true := by rw [bne, show ((ch.toNat : Int) == 10) = false from HNT.o 10 n10]; rfl
            have HTC : Hq (bareM true (A.data.toList.drop k) = ch :: bareM true (A.data.toList.drop (k + 1))) := hq (by rw [HT.o]; simp [n34])
            clear n34 n92 n32 n10 HT HNT HTST
            go_wp2_with (at_builtin; refine wpList_append_own _ rfl _ _ 78 rfl w.heap.size 5 i0 (.int .u8 0) 1 1 Tryz.underlying78 hi hz0 hz1 hz2 rfl (by decide) _ _ _ rfl (hrow.o.alloc _) ⟨wr.heap.size, 0, none⟩ 1 1 [.int .u8 (ch.toNat : Int)] rfl rfl (cells_new _ [.int .u8 (ch.toNat : Int)] _) (u8_one ⟨[(ch.toNat : Int)], rfl⟩) (HR1.o 1 (by omega)) (HR2.o 1 (by omega)) (by rw [World.size_alloc]; omega) ?_)
            intro v' w2 hown' hgrow _
            have hrow2 : RowIs w2 w.heap.size v' (L ++ [ch]) := rel_app hown' rfl rfl rfl
            have HB2 := hq ((hb.o.alloc hsz _).grown hgrow (by rw [World.size_alloc]; omega) HOT.o)
            have HROW := hq hrow2
            clear hown' hgrow hrow2
            go_wp2_with fail
            go_roundg (gk - 1)
            case rel => exact ⟨k + 1, true, L ++ [ch], int_eq (by omega), rfl, by omega, by rw [List.length_append]; simp only [List.length_cons, List.length_nil]; omega, hq (by rw [← hrel2.o, HTC.o]; simp), HROW, hq (fun h => by simp at h), HB2⟩
            case measure => omega
    · have hz : ¬ (k : Int) < (A.size : Int) := by omega
      have hke : A.size ≤ k := by omega
      have HE := hq (bare_end hke)
      rw [HE.o] at hrel2
      have hLG : L = G := by
        have h1 := hrel2.o
        rw [show ∀ b, bareM b [] = [] from fun b => by rw [bareM], List.append_nil] at h1
        exact h1
      have hL0 : 0 < L.length := by
        rcases Nat.eq_zero_or_pos L.length with h | h
        · exact absurd (hLG.symm.trans (List.eq_nil_of_length_eq_zero h)) HNE.o
        · exact h
      have hcv := bytes_back hrow.o hL0
      have HV := hq (HP.o L wr hLG hb.o)
      clear HP HE hrel2 hLG hrow hnil hb HNE HS0
      go_wp2_with fail
      first
        | exact HV.o
        | (go_ret
           exact HV.o)
        | trace_state

end Go.Proofs.YtnlkokgekjlmmaaGreatDoor
