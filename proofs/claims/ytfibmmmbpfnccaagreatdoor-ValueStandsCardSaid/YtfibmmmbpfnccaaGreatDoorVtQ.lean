/-
  WALKS: value.byKey; Copy and Sorted.
-/
import Derived.Test.YtfibmmmbpfnccaaGreatDoorVtP
import Derived.Test.YtfibmmmbpfnccaaGreatDoorShelf
import Derived.Lib.OwnBridge
import Derived.BigQuiet
namespace Go.Proofs.YtfibmmmbpfnccaaGreatDoor
open Go.RowKit Go.Sort Go.Shelf

theorem sortWorld_cell {α : Type} [Inhabited α] (enc : α → Value) (w : World) (blk off m : Nat) (dk : Array α) (os : Array Obj) {a : Addr} (hb : a.block ≠ blk) (hl : a.block < w.heap.size) : (sortWorld enc w blk off m dk os).cell? a = w.cell? a := by
  unfold sortWorld
  rw [cell?_grow _ _ _ (by simpa [putRow, mapBlock, Sort.ahead] using hl), cell?_putRow_other enc (Sort.ahead w m) blk off dk a (.inl hb)]
  rfl
set_option maxHeartbeats 4000000 in
set_option maxRecDepth 1000000 in
theorem bykey1_any (gv : Nat) (ko : Option Addr) (kc : Nat) (kl : List Bs) (V : World) (_hkl : kl.length ≤ kc) (_hkc : kc ≤ maxLen) (hc : V.cell? ⟨gv, 2, none⟩ = some (.slice ko kl.length kc)) (hin : StrsIn V ko kl) (i j : Nat) (hi : i < kl.length) (hj : j < kl.length) :
    Calls Tryz.prog 110 #[.int .i64 (i : Int), .int .i64 (j : Int), .pointer (some ⟨gv, 0, none⟩)] V fun e w' => e = .returned (.int .i64 (cmpB (keyAt kl i) (keyAt kl j))) ∧ ∃ q, w' = V.drewN q := by
  obtain ⟨b, f, ho, k0⟩ := hin i hi
  obtain ⟨b', f', ho', k1⟩ := hin j hj
  rw [keyAt_lt hi, keyAt_lt hj]
  have hiz : (i : Int) < (kl.length : Int) := by omega
  have hjz : (j : Int) < (kl.length : Int) := by omega
  unfold maxLen at _hkc
  have HCM := hq (fun W => Tryz.strings_Compare (st kl[i]) (st kl[j]) W)
  rw [st_list, st_list] at HCM
  have HP : Hq (∀ (W' : World), (∃ q, W' = V.drewN q) → (fun (e : Ending) (w' : World) => e = .returned (.int .i64 (cmpB kl[i] kl[j])) ∧ ∃ q, w' = V.drewN q) (.returned (.int .i64 (cmpB kl[i] kl[j]))) W') := hq (fun W' h => ⟨rfl, h⟩)
  generalize (fun (e : Ending) (w' : World) => e = .returned (.int .i64 (cmpB kl[i] kl[j])) ∧ ∃ q, w' = V.drewN q) = PP at *
  generalize kl[i] = x at *
  generalize kl[j] = y at *
  generalize hcm : cmpB x y = cm at *
  have HCM2 : Hq (∀ W, Calls Tryz.prog 93 #[.string (st x), .string (st y)] W fun e w' => e = .returned (.int .i64 cm) ∧ w' = W) := hq (fun W => by rw [← hcm]; exact HCM.o W)
  clear HCM hcm
  subst ho
  injection ho' with ho'
  injection ho' with hb' hf'
  subst hb' hf'
  go_enter Tryz.func110, Tryz.ntmps110
  go_wp2_with fail
  go_region_with (go_at_call 93; refine (HCM2.o _).mono ?_; rintro e9 w9 ⟨rfl, rfl⟩)
  all_goals go_wp2_with fail
  all_goals
    first
    | (go_ret; exact HP.o _ ⟨1, rfl⟩)
    | (go_ret2; exact HP.o _ ⟨1, rfl⟩)
    | (go_simp; exact HP.o _ ⟨1, rfl⟩)
theorem enter_bykey1 (args : Array Value) (w : World) : (callFunc 110 args).run Tryz.prog w = .ok (.enter 110 args) w := by kernel_rfl

def ordN (ks : List Bs) (n : Nat) : List Nat := ((List.finRange n).mergeSort (fun x y => !ltOf (cfK ks n) y x)).map Fin.val
/-- the order of a node's items by their keys -/
def ordK (v : Vl) : List Nat := if v.k = 6 then ordN v.ks v.is.length else List.range v.is.length
def natE {n : Nat} (i : Fin n) : Value := .int .i64 (i.val : Int)
theorem ordN_len (ks : List Bs) (n : Nat) : (ordN ks n).length = n := by unfold ordN; rw [List.length_map, List.length_mergeSort, List.length_finRange]
theorem ordN_zero (ks : List Bs) : ordN ks 0 = [] := List.eq_nil_of_length_eq_zero (ordN_len ks 0)
theorem below_growV (w : World) (os : Array Obj) : Below w.heap.size w (grow w os) := ⟨rfl, rfl, rfl, by show w.heap.size ≤ (w.heap ++ os).size; rw [Array.size_append]; omega, fun _ hj => Sort.heap_grow_old w os hj⟩
theorem ordK_len (v : Vl) : (ordK v).length = v.is.length := by
  unfold ordK
  split
  · unfold ordN; rw [List.length_map, List.length_mergeSort, List.length_finRange]
  · rw [List.length_range]
set_option maxHeartbeats 8000000 in
set_option maxRecDepth 1000000 in
theorem bykey_any (x : Vt) (w : World) (hok : x.Ok w) (hn : x.is.length ≤ 1000000) (hk6 : x.k = 6 → x.ks.l.length = x.is.length ∧ x.ks.l.Nodup) : Calls Tryz.prog 77 #[x.v] w (NatsPost w.heap.size (ordK x.m) w) := by
  obtain ⟨k, t, ⟨ko, kc, kl⟩, o, c, is⟩ := x
  have hkl : kl.length ≤ kc := hok.hks.le
  have hkc : kc ≤ maxLen := hok.hks.cp
  rw [Vt.m_mk]
  simp only [Vt.is, Vt.k, Vt.ks] at hn hk6
  have hb0 := below_alloc w (.cells #[.int .i64 k, .string (st t), .slice ko kl.length kc, .slice o is.length c] 25)
  have hw0 := Whole.made w 25 #[.int .i64 k, .string (st t), .slice ko kl.length kc, .slice o is.length c]
  have HST := hq (fun V => stand_any (Vt.mk k t ⟨ko, kc, kl⟩ o c is) V hn)
  rw [Vt.v_mk'] at *
  simp only [Vt.is] at HST
  have HLEN : Hq ((ordK (.mk k t kl (is.map Vt.m))).length = is.length) := hq (by rw [ordK_len]; simp [Vl.is])
  have HO6 : Hq (k = 6 → ordK (.mk k t kl (is.map Vt.m)) = ordN kl is.length) := hq (fun h => by
    unfold ordK
    rw [if_pos (by exact h)]
    simp only [Vl.is, Vl.ks, List.length_map])
  have HON : Hq (k ≠ 6 → ordK (.mk k t kl (is.map Vt.m)) = List.range is.length) := hq (fun h => by
    unfold ordK
    rw [if_neg (by exact h)]
    simp only [Vl.is, List.length_map])
  have HP : Hq (∀ (v : Value) W', W'.ownsRow w.heap.size 3 1 v is.length (natC (ordK (.mk k t kl (is.map Vt.m)))) → Below w.heap.size w W' → NatsPost w.heap.size (ordK (.mk k t kl (is.map Vt.m))) w (.returned v) W') := hq (fun v W' h1 h2 => ⟨v, rfl, by rw [HLEN.o]; exact h1, h2⟩)
  generalize NatsPost w.heap.size (ordK (.mk k t kl (is.map Vt.m))) w = PP at *
  generalize ordK (.mk k t kl (is.map Vt.m)) = od at *
  have HOK := hq (hok.grow hb0)
  have HB0 := hq hb0
  have HW0 := hq hw0
  have hsz := hb0.size
  clear hok hb0 hw0
  go_enter Tryz.func77, Tryz.ntmps77
  go_upto_region 1 with fail
  have hgl : w.heap.size < (w.alloc (.cells #[.int .i64 k, .string (st t), .slice ko kl.length kc, .slice o is.length c] 25)).heap.size := HW0.o.lt
  generalize (w.alloc (.cells #[.int .i64 k, .string (st t), .slice ko kl.length kc, .slice o is.length c] 25)) = V0 at *
  obtain ⟨c0, c1, c2, c3⟩ := four_cells HW0.o
  have HSC := hq (HST.o V0)
  unfold NatsPost at HSC
  rw [List.length_range] at HSC
  clear HST
  go_wp2_with fail
  refine HSC.o.mono ?_
  rintro e w1 ⟨ov, rfl, hown, hb1⟩
  obtain ⟨d0, d1, d2, d3⟩ := four_cells (HW0.o.grow hb1)
  have HB1 := hq (below_trans HB0.o hb1)
  have HOWN := hq hown
  have HV1 := hq hb1
  clear HSC c0 c1 c2 c3 hb1 hown
  by_cases h6 : k = 6
  case neg =>
    have e6 : (k == 6) = false := beq_eq_false_iff_ne.2 h6
    have HV := hq (HP.o ov w1 (by rw [HON.o h6]; exact row_base HOWN.o hsz) HB1.o)
    clear HP HON HO6 HOWN HB1 HV1
    go_wp2_with fail
    exact HV.o
  have e6 : (k == 6) = true := beq_iff_eq.2 h6
  obtain ⟨hl6, hnd⟩ := hk6 h6
  have HO := hq (HO6.o h6)
  have HKN := hq (And.intro hl6 hnd)
  have HWB := hq (HW0.o.grow HV1.o)
  have HKS := hq ((HOK.o.grow HV1.o).hks.rd)
  clear HO6 HON h6 hl6 hnd
  generalize is.length = n at *
  cases n with
    | zero =>
      obtain ⟨a, cap, rfl⟩ := row_shapeV HOWN.o
      have HV := hq (HP.o _ w1 (by rw [HO.o, ordN_zero]; exact row_base HOWN.o hsz) HB1.o)
      clear HP HO HOWN HB1 HV1
      go_wp2_with fail
      refine (Tryz.slices_SortFunc_none (α := Nat) a cap _ _).mono ?_
      rintro e w2 ⟨rfl, h2⟩
      obtain rfl := h2.symm
      go_wp2_with fail
      exact HV.o
    | succ m =>
      have hnat : natC (List.range (m + 1)) = ((List.finRange (m + 1)).map natE) := by
        unfold natC
        apply List.ext_getElem
        · simp
        · intro i h1 h2
          simp [natE]
      have HOW2 := hq HOWN.o
      rw [hnat] at HOW2
      have hnil : ov ≠ .slice none 0 0 := fun h => by
        have h1 := HOWN.o.2
        rw [h] at h1
        rcases h1 with ⟨_, h2⟩ | ⟨g, cap, cur, h2, _⟩
        · omega
        · cases h2
      obtain ⟨g, cap, rfl, hg0, hg1, hnc, hcm, hzl, hH⟩ := Lib.holds_of_ownsRow HOW2.o hnil
      obtain ⟨hl6, hnd⟩ := HKN.o
      have hds : (List.finRange (m + 1)).toArray.size = m + 1 := by simp
      have hcmp : CmpReads Tryz.prog 110 #[.pointer (some ⟨w.heap.size, 0, none⟩)] natE (cfK kl (m + 1)) g 0 (List.finRange (m + 1)).toArray.size w1 := fun q os dk _ x y => by
        have hin : StrsIn (sortWorld natE w1 g 0 q dk os) ko kl := fun i hi => by
          obtain ⟨b, f, h1, h2⟩ := HOK.o.hks.rd i hi
          simp only at h1 h2
          have h3 := cell_blk h2
          simp only at h3
          exact ⟨b, f, h1, (sortWorld_cell natE w1 g 0 q dk os (by simp only; omega) (by simp only; have := HV1.o.size; omega)).trans ((HV1.o.cell (p := ⟨b, f + i, none⟩) h3).trans h2)⟩
        exact bykey1_any w.heap.size ko kc kl _ hkl hkc ((sortWorld_cell natE w1 g 0 q dk os (by simp only; omega) (by simp only; have := HV1.o.size; omega)).trans d2) hin x.val y.val (by omega) (by omega)
      have HSORT := hq (Tryz.slices_SortFunc_total natE (fun _ => rfl) (cfK kl (m + 1)) (cfK_swo _ _) _ #[.pointer (some ⟨w.heap.size, 0, none⟩)] g 0 cap (List.finRange (m + 1)).toArray w1 enter_bykey1 hcmp.lays hH hg1 (by omega) (cfK_total hnd hl6))
      rw [hds] at HSORT
      have HF := hq (fun (nn : Nat) (os : Array Obj) => HP.o (.slice (some ⟨g, 0, none⟩) (m + 1) cap) (sortWorld natE w1 g 0 nn ((List.finRange (m + 1)).mergeSort (fun x y => !ltOf (cfK kl (m + 1)) y x)).toArray os) (by
        have h1 := Lib.ownsRow_putRow (q := nn) (k := m + 1) (ys := (List.finRange (m + 1)).mergeSort (fun x y => !ltOf (cfK kl (m + 1)) y x)) HOW2.o (by rw [List.length_mergeSort, List.length_finRange]) (Nat.le_refl _)
        have h2 := h1.kept (grownBy_below (below_growV _ os) none) (.inr (by simp [Value.ownBlock]))
        rw [List.take_of_length_le (by rw [List.length_mergeSort, List.length_finRange]; exact Nat.le_refl _)] at h2
        have h3 : natC (ordN kl (m + 1)) = ((List.finRange (m + 1)).mergeSort (fun x y => !ltOf (cfK kl (m + 1)) y x)).map natE := by
          unfold natC ordN natE
          rw [List.map_map]
          rfl
        rw [HO.o, h3]
        exact row_base h2 hsz) (by
        have h1 := Lib.below_putRow (q := nn) (d := ((List.finRange (m + 1)).mergeSort (fun x y => !ltOf (cfK kl (m + 1)) y x)).toArray) (enc := natE) HB1.o (show w.heap.size ≤ g by omega)
        exact below_trans h1 (below_growV _ os)))
      clear HP HO HOWN HB1 HV1 HOW2 hnil hnat hcmp hH hl6 hnd HKS HKN HWB HOK
      go_wp2_with fail
      refine HSORT.o.mono ?_
      rintro e w2 ⟨rfl, nn, os, h2⟩
      have HV := HF.o nn os
      rw [← h2] at HV
      have HVV := hq HV
      clear h2 HF HSORT HV
      go_wp2_with fail
      exact HVV.o
end Go.Proofs.YtfibmmmbpfnccaaGreatDoor
