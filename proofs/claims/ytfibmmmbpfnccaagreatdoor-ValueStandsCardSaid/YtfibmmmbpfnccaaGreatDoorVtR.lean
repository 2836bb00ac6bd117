/-
  WALKS over trees: the document's Size and Depth; few, short, Few.
-/
import Derived.Test.YtfibmmmbpfnccaaGreatDoorVtM
import Derived.Test.YtfibmmmbpfnccaaGreatDoorProg
import Derived.BigQuiet
import Derived.Deep.RegionHeld3
import Derived.Deep.RegionWith
import Derived.Deep.CutRange
import Derived.IntWalk
namespace Go.Proofs.YtfibmmmbpfnccaaGreatDoor
open Go.RowKit

def IPost (n : Int) (w : World) (e : Ending) (w' : World) : Prop := e = .returned (.int .i64 n) ∧ Below w.heap.size w w'
def BPost (b : Bool) (w : World) (e : Ending) (w' : World) : Prop := e = .returned (.bool b) ∧ Below w.heap.size w w'
theorem four_cells {w : World} {g : Nat} {t : TypeId} {a b c d : Value} (h : Whole w g t #[a, b, c, d]) :
    w.cell? ⟨g, 0, none⟩ = some a ∧ w.cell? ⟨g, 1, none⟩ = some b ∧ w.cell? ⟨g, 2, none⟩ = some c ∧ w.cell? ⟨g, 3, none⟩ = some d := ⟨h.at_ 0, h.at_ 1, h.at_ 2, h.at_ 3⟩
theorem sizes_take {l : List Vt} {j : Nat} (h : j < l.length) : Vl.sizes ((l.take (j + 1)).map Vt.m) = Vl.sizes ((l.take j).map Vt.m) + l[j].m.size := by
  rw [List.take_succ_eq_append_getElem h, List.map_append, Vl.sizes_append]; simp [Vl.sizes]
theorem sizes_all {l : List Vt} {j : Nat} (h : j = l.length) : Vl.sizes ((l.take j).map Vt.m) = Vl.sizes (l.map Vt.m) := by
  rw [h, List.take_length]
theorem sizes_part (l : List Vt) (j : Nat) : Vl.sizes ((l.take j).map Vt.m) ≤ Vl.sizes (l.map Vt.m) := by
  have h : l.map Vt.m = (l.take j).map Vt.m ++ (l.drop j).map Vt.m := by rw [← List.map_append, List.take_append_drop]
  rw [h, Vl.sizes_append]; omega
theorem depths_take {l : List Vt} {j : Nat} (h : j < l.length) : Vl.depths ((l.take (j + 1)).map Vt.m) = max (Vl.depths ((l.take j).map Vt.m)) l[j].m.depth := by
  rw [List.take_succ_eq_append_getElem h, List.map_append, Vl.depths_append]; simp [Vl.depths]
theorem item_size {l : List Vt} {n : Nat} (h : Vl.sizes (l.map Vt.m) ≤ n) : ∀ x ∈ l, x.m.size ≤ n := fun x hx =>
  Nat.le_trans (Vl.sizes_le _ (List.mem_map.2 ⟨x, hx, rfl⟩)) h
theorem item_depth {l : List Vt} {n : Nat} (h : Vl.depths (l.map Vt.m) ≤ n) : ∀ x ∈ l, x.m.depth ≤ n := fun x hx =>
  Nat.le_trans (Vl.depths_le _ (List.mem_map.2 ⟨x, hx, rfl⟩)) h
set_option maxHeartbeats 4000000 in
set_option maxRecDepth 1000000 in
theorem rvsize_any : ∀ (x : Vt) (w : World), x.Ok w → x.m.size ≤ 1000000000 → Calls Tryz.prog 26 #[x.v] w (IPost (x.m.size : Int) w) := Vt.ind (fun k t ks o c is ih w hok hs => by
  have hn := hok.hl
  have hc := hok.hc
  unfold maxLen at hc
  rw [Vt.m_mk] at hs ⊢
  rw [Vt.v_mk]
  simp only [Vl.size] at hs ⊢
  have HP : Hq (∀ (m : Int) W', m = ((1 + Vl.sizes (is.map Vt.m) : Nat) : Int) → Below w.heap.size w W' → IPost ((1 + Vl.sizes (is.map Vt.m) : Nat) : Int) w (.returned (.int .i64 m)) W') := hq (fun m W' h h2 => ⟨by rw [h], h2⟩)
  have HIH := hq (fun (x : Vt) (hx : x ∈ is) W (h : x.Ok W) => ih x hx W h (item_size (by omega) x hx))
  have HPT := hq (fun j => sizes_part is j)
  generalize IPost ((1 + Vl.sizes (is.map Vt.m) : Nat) : Int) w = PP at *
  have hb0 := below_alloc w (.cells #[.int .i64 k, .string (st t), ks.v, .slice o is.length c] 25)
  have HOK := hq (hok.grow hb0)
  have HW0 := hq (Whole.made w 25 #[.int .i64 k, .string (st t), ks.v, .slice o is.length c])
  have HB0 := hq hb0
  clear hok ih hb0
  go_enter Tryz.func26, Tryz.ntmps26
  go_wp2_with fail
  generalize w.heap.size = g at HW0
  generalize (w.alloc (.cells #[.int .i64 k, .string (st t), ks.v, .slice o is.length c] 25)) = V0 at *
  have hVg := hq (fun wr (hb : Below V0.heap.size V0 wr) => four_cells (HW0.o.grow hb))
  go_loopw [3, 4] (fun u i wr => ∃ (j : Nat) (m : Int), j ≤ is.length ∧ u = .int .i64 m ∧ i = .int .i64 (j : Int) ∧ Hq (m = ((1 + Vl.sizes ((is.take j).map Vt.m) : Nat) : Int)) ∧ Hq (Below V0.heap.size V0 wr)) (fun _ i _ => is.length - (intOf i).toNat)
  case atStart => exact ⟨0, 1, Nat.zero_le _, rfl, rfl, hq (by simp [Vl.sizes]), hq (Below.refl _ _)⟩
  case round =>
    obtain ⟨j, m, hj, rfl, rfl, hm, hb⟩ := hrel
    obtain ⟨c0, c1, c2, c3⟩ := hVg.o wr hb.o
    by_cases h : j < is.length
    · have hz : (j : Int) < (is.length : Int) := by omega
      obtain ⟨b, f, ho, i0, i1, i2, i3⟩ := (HOK.o.grow hb.o).at_ j h
      have HC := hq (HIH.o is[j] (List.getElem_mem h) wr ((HOK.o.grow hb.o).item j h))
      have HT := hq (sizes_take h)
      have hp1 := HPT.o (j + 1)
      rw [HT.o] at hp1
      have hm0 : 0 ≤ m ∧ m + (is[j].m.size : Int) ≤ 1000000000 := by have := hm.o; omega
      have HM := hq (show m + (is[j].m.size : Int) = ((1 + Vl.sizes ((is.take (j + 1)).map Vt.m) : Nat) : Int) by rw [HT.o]; have := hm.o; omega)
      clear HIH HPT HT hp1 hm
      generalize is[j] = x at *
      subst ho
      go_wp2_with fail
      refine HC.o.mono ?_
      rintro e w2 ⟨rfl, hb2⟩
      have HB2 := hq (below_trans hb.o hb2)
      clear hb2 c0 c1 c2 c3 i0 i1 i2 i3
      go_wp2_with fail
      go_roundw
      case rel => exact ⟨j + 1, _, h, rfl, int_eq (by omega), HM, HB2⟩
      case measure => simp [intOf]; omega
    · have hz : ¬ (j : Int) < (is.length : Int) := by omega
      have HV := hq (HP.o m wr (by rw [hm.o, sizes_all (by omega)]) (below_trans HB0.o hb.o))
      clear HP HIH HPT hm
      go_wp2_with fail
      exact HV.o)

theorem depths_part (l : List Vt) (j : Nat) : Vl.depths ((l.take j).map Vt.m) ≤ Vl.depths (l.map Vt.m) := by
  have h : l.map Vt.m = (l.take j).map Vt.m ++ (l.drop j).map Vt.m := by rw [← List.map_append, List.take_append_drop]
  rw [h, Vl.depths_append]; omega
theorem depths_all {l : List Vt} {j : Nat} (h : j = l.length) : Vl.depths ((l.take j).map Vt.m) = Vl.depths (l.map Vt.m) := by
  rw [h, List.take_length]
set_option maxHeartbeats 4000000 in
set_option maxRecDepth 1000000 in
theorem rvdepth_any : ∀ (x : Vt) (w : World), x.Ok w → x.m.depth ≤ 1000000000 → Calls Tryz.prog 28 #[x.v] w (IPost (x.m.depth : Int) w) := Vt.ind (fun k t ks o c is ih w hok hs => by
  have hn := hok.hl
  have hc := hok.hc
  unfold maxLen at hc
  rw [Vt.m_mk] at hs ⊢
  rw [Vt.v_mk]
  simp only [Vl.depth] at hs ⊢
  have HP : Hq (∀ (m : Int) W', m = ((Vl.depths (is.map Vt.m) + 1 : Nat) : Int) → Below w.heap.size w W' → IPost ((Vl.depths (is.map Vt.m) + 1 : Nat) : Int) w (.returned (.int .i64 m)) W') := hq (fun m W' h h2 => ⟨by rw [h], h2⟩)
  have HIH := hq (fun (x : Vt) (hx : x ∈ is) W (h : x.Ok W) => ih x hx W h (item_depth (by omega) x hx))
  have HPT := hq (fun j => depths_part is j)
  generalize IPost ((Vl.depths (is.map Vt.m) + 1 : Nat) : Int) w = PP at *
  have hb0 := below_alloc w (.cells #[.int .i64 k, .string (st t), ks.v, .slice o is.length c] 25)
  have HOK := hq (hok.grow hb0)
  have HW0 := hq (Whole.made w 25 #[.int .i64 k, .string (st t), ks.v, .slice o is.length c])
  have HB0 := hq hb0
  clear hok ih hb0
  go_enter Tryz.func28, Tryz.ntmps28
  go_wp2_with fail
  generalize w.heap.size = g at HW0
  generalize (w.alloc (.cells #[.int .i64 k, .string (st t), ks.v, .slice o is.length c] 25)) = V0 at *
  have hVg := hq (fun wr (hb : Below V0.heap.size V0 wr) => four_cells (HW0.o.grow hb))
  go_loopw [3, 4] (fun u i wr => ∃ (j : Nat) (m : Int), j ≤ is.length ∧ u = .int .i64 m ∧ i = .int .i64 (j : Int) ∧ Hq (m = (Vl.depths ((is.take j).map Vt.m) : Int)) ∧ Hq (Below V0.heap.size V0 wr)) (fun _ i _ => is.length - (intOf i).toNat)
  case atStart => exact ⟨0, 0, Nat.zero_le _, rfl, rfl, hq (by simp [Vl.depths]), hq (Below.refl _ _)⟩
  case round =>
    obtain ⟨j, m, hj, rfl, rfl, hm, hb⟩ := hrel
    obtain ⟨c0, c1, c2, c3⟩ := hVg.o wr hb.o
    by_cases h : j < is.length
    · have hz : (j : Int) < (is.length : Int) := by omega
      obtain ⟨b, f, ho, i0, i1, i2, i3⟩ := (HOK.o.grow hb.o).at_ j h
      have HC := hq (HIH.o is[j] (List.getElem_mem h) wr ((HOK.o.grow hb.o).item j h))
      have HT := hq (depths_take h)
      have hp1 := HPT.o (j + 1)
      rw [HT.o] at hp1
      have HM := hq (show (if m < (is[j].m.depth : Int) then (is[j].m.depth : Int) else m) = (Vl.depths ((is.take (j + 1)).map Vt.m) : Int) by rw [HT.o, hm.o]; split <;> omega)
      clear HIH HPT HT hp1 hm
      generalize is[j] = x at *
      subst ho
      go_wp2_with fail
      refine HC.o.mono ?_
      rintro e w2 ⟨rfl, hb2⟩
      have HB2 := hq (below_trans hb.o hb2)
      clear hb2 c0 c1 c2 c3 i0 i1 i2 i3
      go_wp2_with fail
      go_roundw
      case rel => exact ⟨j + 1, _, h, rfl, int_eq (by omega), HM, HB2⟩
      case measure => simp [intOf]; omega
    · have hz : ¬ (j : Int) < (is.length : Int) := by omega
      have hm0 : 0 ≤ m ∧ m ≤ 1000000000 := by have := hm.o; have := HPT.o j; omega
      have HV := hq (HP.o (m + 1) wr (by rw [hm.o, depths_all (by omega)]; omega) (below_trans HB0.o hb.o))
      clear HP HIH HPT hm
      go_wp2_with fail
      exact HV.o)
theorem weights_take {l : List Vt} {j : Nat} (h : j < l.length) : Vl.weights ((l.take (j + 1)).map Vt.m) = Vl.weights ((l.take j).map Vt.m) + l[j].m.weight := by
  rw [List.take_succ_eq_append_getElem h, List.map_append, Vl.weights_append]; simp [Vl.weights]
def FewP (x : Vl) (left deep : Int) (w : World) (e : Ending) (w' : World) : Prop :=
  ∃ n : Int, e = .returned (.int .i64 n) ∧ (-9223372036854775808 ≤ n ∧ n ≤ left) ∧ (0 ≤ n → n + (x.weight : Int) = left ∧ deep + (x.depth : Int) ≤ 61) ∧ Below w.heap.size w w'
set_option maxHeartbeats 4000000 in
set_option maxRecDepth 1000000 in
theorem few0_any : ∀ (x : Vt) (left deep : Int) (w : World), x.Ok w → 0 ≤ left → left ≤ 1000000 → 0 ≤ deep → deep ≤ 1000 → Calls Tryz.prog 60 #[x.v, .int .i64 left, .int .i64 deep] w (FewP x.m left deep w) := Vt.ind (fun k t ks o c is ih left deep w hok hl0 hl1 hd0 hd1 => by
  obtain ⟨ko, kc, kl⟩ := ks
  have hn := hok.hl
  have hc := hok.hc
  have hkl : kl.length ≤ kc := hok.hks.le
  have hkc : kc ≤ maxLen := hok.hks.cp
  unfold maxLen at hc hkc
  rw [Vt.m_mk]
  rw [Vt.v_mk']
  simp only
  have HP : Hq (∀ (n : Int) W', (-9223372036854775808 ≤ n ∧ n ≤ left) → (0 ≤ n → n + ((1 + kl.length + Vl.weights (is.map Vt.m) : Nat) : Int) = left ∧ deep + ((Vl.depths (is.map Vt.m) + 1 : Nat) : Int) ≤ 61) → Below w.heap.size w W' → FewP (.mk k t kl (is.map Vt.m)) left deep w (.returned (.int .i64 n)) W') := hq (fun n W' h1 h2 h3 => ⟨n, rfl, h1, by simp only [Vl.weight, Vl.depth]; exact h2, h3⟩)
  have HIH := hq ih
  generalize FewP (.mk k t kl (is.map Vt.m)) left deep w = PP at *
  have hb0 := below_alloc w (.cells #[.int .i64 k, .string (st t), .slice ko kl.length kc, .slice o is.length c] 25)
  have HOK := hq (hok.grow hb0)
  have HW0 := hq (Whole.made w 25 #[.int .i64 k, .string (st t), .slice ko kl.length kc, .slice o is.length c])
  have HB0 := hq hb0
  clear hok ih hb0
  go_enter Tryz.func60, Tryz.ntmps60
  by_cases hdd : 60 < deep
  · have HV := hq (HP.o (-1) _ ⟨by omega, by omega⟩ (fun h => by omega) HB0.o)
    clear HP HIH
    go_wp2_with fail
    exact HV.o
  go_upto_region 3 with fail
  generalize w.heap.size = g at HW0
  generalize (w.alloc (.cells #[.int .i64 k, .string (st t), .slice ko kl.length kc, .slice o is.length c] 25)) = V0 at *
  have hVg := hq (fun wr (hb : Below V0.heap.size V0 wr) => four_cells (HW0.o.grow hb))
  obtain ⟨c0, c1, c2, c3⟩ := hVg.o V0 (Below.refl _ _)
  go_wp2_with fail
  clear c0 c1 c2 c3
  go_loopw [1, 7] (fun u i wr => ∃ (j : Nat) (m : Int), j ≤ is.length ∧ u = .int .i64 m ∧ i = .int .i64 (j : Int) ∧ (-9223372036854775808 ≤ m ∧ m ≤ left) ∧ Hq (0 ≤ m → m + ((1 + kl.length + Vl.weights ((is.take j).map Vt.m) : Nat) : Int) = left ∧ deep + ((Vl.depths ((is.take j).map Vt.m) + 1 : Nat) : Int) ≤ 61) ∧ Hq (Below V0.heap.size V0 wr)) (fun _ i _ => is.length - (intOf i).toNat)
  case atStart => exact ⟨0, left - 1 - kl.length, Nat.zero_le _, int_eq (by omega), rfl, ⟨by omega, by omega⟩, hq (fun h => by simp [Vl.weights, Vl.depths]; omega), hq (Below.refl _ _)⟩
  case round =>
    obtain ⟨j, m, hj, rfl, rfl, hmb, hm, hb⟩ := hrel
    obtain ⟨c0, c1, c2, c3⟩ := hVg.o wr hb.o
    by_cases h : j < is.length
    · have hz : (j : Int) < (is.length : Int) := by omega
      by_cases hm0 : 0 ≤ m
      · have hd0 : decide (0 ≤ m) = true := decide_eq_true hm0
        obtain ⟨b, f, ho, i0, i1, i2, i3⟩ := (HOK.o.grow hb.o).at_ j h
        have HC := hq (HIH.o is[j] (List.getElem_mem h) m (deep + 1) wr ((HOK.o.grow hb.o).item j h) hm0 (by omega) (by omega) (by omega))
        have HT := hq (weights_take h)
        have HD := hq (depths_take h)
        have HM := hq (fun (n : Int) (hn : 0 ≤ n → n + (is[j].m.weight : Int) = m ∧ deep + 1 + (is[j].m.depth : Int) ≤ 61) => (fun h0 => by
          have := hn h0
          have := hm.o hm0
          rw [HT.o, HD.o]
          omega : 0 ≤ n → n + ((1 + kl.length + Vl.weights ((is.take (j + 1)).map Vt.m) : Nat) : Int) = left ∧ deep + ((Vl.depths ((is.take (j + 1)).map Vt.m) + 1 : Nat) : Int) ≤ 61))
        clear HIH HT HD hm
        generalize is[j] = x at *
        subst ho
        go_wp2_with fail
        refine HC.o.mono ?_
        rintro e w2 ⟨n, rfl, hnb, hn2, hb2⟩
        have HB2 := hq (below_trans hb.o hb2)
        have HN2 := hq (HM.o n hn2)
        clear hb2 c0 c1 c2 c3 i0 i1 i2 i3 hn2 HC
        go_wp2_with fail
        go_roundw
        case rel => exact ⟨j + 1, _, h, rfl, int_eq (by omega), ⟨by omega, by omega⟩, HN2, HB2⟩
        case measure => simp [intOf]; omega
      · have hd0 : decide (0 ≤ m) = false := decide_eq_false hm0
        have HV := hq (HP.o m wr hmb (fun h => absurd h hm0) (below_trans HB0.o hb.o))
        clear HP HIH hm
        go_wp2_with fail
        exact HV.o
    · have hz : ¬ (j : Int) < (is.length : Int) := by omega
      have HV := hq (HP.o m wr hmb (fun h => by
        have := hm.o h
        rwa [show j = is.length by omega, List.take_length] at this) (below_trans HB0.o hb.o))
      clear HP HIH hm
      go_wp2_with fail
      exact HV.o)

/-- short texts -/
def Sht (v : Vl) : Prop := v.t.length ≤ 2048 ∧ ∀ x ∈ v.ks, x.length ≤ 1024
def ShtP (x : Vl) (w : World) (e : Ending) (w' : World) : Prop := ∃ v : Bool, e = .returned (.bool v) ∧ (v = true → x.All Sht) ∧ Below w.heap.size w w'
set_option maxHeartbeats 4000000 in
set_option maxRecDepth 1000000 in
theorem short0_any : ∀ (x : Vt) (w : World), x.Ok w → Calls Tryz.prog 61 #[x.v] w (ShtP x.m w) := Vt.ind (fun k t ks o c is ih w hok => by
  obtain ⟨ko, kc, kl⟩ := ks
  have hn := hok.hl
  have hc := hok.hc
  have hkl : kl.length ≤ kc := hok.hks.le
  have hkc : kc ≤ maxLen := hok.hks.cp
  have htl := hok.ht
  have hktl := hok.hkt
  simp only at hktl
  unfold maxLen at hc hkc htl hktl
  rw [Vt.m_mk]
  rw [Vt.v_mk']
  simp only
  have HF : Hq (∀ W', Below w.heap.size w W' → ShtP (.mk k t kl (is.map Vt.m)) w (.returned (.bool false)) W') := hq (fun W' h3 => ⟨false, rfl, fun h => (by cases h), h3⟩)
  have HP : Hq (∀ W', t.length ≤ 2048 → (∀ x ∈ kl, x.length ≤ 1024) → (∀ x ∈ is, x.m.All Sht) → Below w.heap.size w W' → ShtP (.mk k t kl (is.map Vt.m)) w (.returned (.bool true)) W') := hq (fun W' h1 h2 h3 h4 => ⟨true, rfl, fun _ => .mk _ _ _ _ ⟨h1, h2⟩ (fun x hx => by
    obtain ⟨y, hy, rfl⟩ := List.mem_map.1 hx
    exact h3 y hy), h4⟩)
  have HIH := hq ih
  generalize ShtP (.mk k t kl (is.map Vt.m)) w = PP at *
  have hb0 := below_alloc w (.cells #[.int .i64 k, .string (st t), .slice ko kl.length kc, .slice o is.length c] 25)
  have HOK := hq (hok.grow hb0)
  have HW0 := hq (Whole.made w 25 #[.int .i64 k, .string (st t), .slice ko kl.length kc, .slice o is.length c])
  have HB0 := hq hb0
  clear hok ih hb0
  go_enter Tryz.func61, Tryz.ntmps61
  go_upto_region 1 with fail
  generalize w.heap.size = g at HW0
  generalize (w.alloc (.cells #[.int .i64 k, .string (st t), .slice ko kl.length kc, .slice o is.length c] 25)) = V0 at *
  have hVg := hq (fun wr (hb : Below V0.heap.size V0 wr) => four_cells (HW0.o.grow hb))
  obtain ⟨c0, c1, c2, c3⟩ := hVg.o V0 (Below.refl _ _)
  by_cases ht2 : t.length ≤ 2048
  case neg =>
    have hz : (2048 : Int) < (t.length : Int) := by omega
    have HV := hq (HF.o V0 HB0.o)
    clear HP HF HIH
    go_wp2_with fail
    exact HV.o
  have hz : ¬ (2048 : Int) < (t.length : Int) := by omega
  have HP1 := hq (fun W' => HP.o W' ht2)
  clear HP
  go_wp2_with fail
  go_loop [3] (fun i => ∃ j : Nat, j ≤ kl.length ∧ i = .int .i64 (j : Int) ∧ Hq (∀ a (h : a < kl.length), a < j → kl[a].length ≤ 1024)) (fun i => kl.length - (intOf i).toNat)
  case atStart => exact ⟨0, Nat.zero_le _, rfl, hq (fun a _ h => absurd h (Nat.not_lt_zero _))⟩
  case round =>
    obtain ⟨j, hj, rfl, hp⟩ := hrel
    by_cases h : j < kl.length
    · have hzj : (j : Int) < (kl.length : Int) := by omega
      obtain ⟨b, f, ho, i0⟩ := HOK.o.hks.rd j h
      simp only at ho i0
      have hx := hktl kl[j] (List.getElem_mem h)
      have HN : Hq (kl[j].length ≤ 1024 → ∀ a (h : a < kl.length), a < j + 1 → kl[a].length ≤ 1024) := hq (fun h1 a ha h2 => by
        by_cases e : a = j
        · subst e; exact h1
        · exact hp.o a ha (by omega))
      clear hp hktl
      generalize kl[j] = x at *
      subst ho
      by_cases hx2 : x.length ≤ 1024
      · have hxz : ¬ (1024 : Int) < (x.length : Int) := by omega
        have HN2 := hq (HN.o hx2)
        clear HN
        go_wp2_with fail
        go_round
        case rel => exact ⟨j + 1, h, int_eq (by omega), HN2⟩
        case measure => simp [intOf]; omega
      · have hxz : (1024 : Int) < (x.length : Int) := by omega
        have HV := hq (HF.o V0 HB0.o)
        clear HP1 HF HIH HN
        go_wp2_with fail
        exact HV.o
    · have hzj : ¬ (j : Int) < (kl.length : Int) := by omega
      have HP2 := hq (fun W' => HP1.o W' (fun x hx => by
        obtain ⟨i, hi, rfl⟩ := List.mem_iff_getElem.1 hx
        exact hp.o i hi (by omega)))
      clear HP1 hp hktl
      go_wp2_with fail
      clear c0 c1 c2 c3
      go_loopw [4, 5] (fun i _ wr => ∃ (j : Nat), j ≤ is.length ∧ i = .int .i64 (j : Int) ∧ Hq (∀ a (h : a < is.length), a < j → is[a].m.All Sht) ∧ Hq (Below V0.heap.size V0 wr)) (fun i _ _ => is.length - (intOf i).toNat)
      case atStart => exact ⟨0, Nat.zero_le _, rfl, hq (fun a _ h => absurd h (Nat.not_lt_zero _)), hq (Below.refl _ _)⟩
      case round =>
        obtain ⟨j, hj, rfl, hp, hb⟩ := hrel
        obtain ⟨c0, c1, c2, c3⟩ := hVg.o wr hb.o
        by_cases h : j < is.length
        · have hzj : (j : Int) < (is.length : Int) := by omega
          obtain ⟨b, f, ho, i0, i1, i2, i3⟩ := (HOK.o.grow hb.o).at_ j h
          have HC := hq (HIH.o is[j] (List.getElem_mem h) wr ((HOK.o.grow hb.o).item j h))
          have HN : Hq (is[j].m.All Sht → ∀ a (h : a < is.length), a < j + 1 → is[a].m.All Sht) := hq (fun h1 a ha h2 => by
            by_cases e : a = j
            · subst e; exact h1
            · exact hp.o a ha (by omega))
          clear HIH hp
          generalize is[j] = x at *
          subst ho
          go_wp2_with fail
          refine HC.o.mono ?_
          rintro e w2 ⟨v, rfl, hv, hb2⟩
          have HB2 := hq (below_trans hb.o hb2)
          clear hb2 c0 c1 c2 c3 i0 i1 i2 i3
          cases v with
          | true =>
            have HN2 := hq (HN.o (hv rfl))
            clear HN hv
            go_wp2_with fail
            go_roundw
            case rel => exact ⟨j + 1, h, int_eq (by omega), HN2, HB2⟩
            case measure => simp [intOf]; omega
          | false =>
            have HV := hq (HF.o w2 (below_trans HB0.o HB2.o))
            clear HN hv HP2 HF
            go_wp2_with fail
            exact HV.o
        · have hzj : ¬ (j : Int) < (is.length : Int) := by omega
          have HV := hq (HP2.o wr (fun x hx => by
            obtain ⟨i, hi, rfl⟩ := List.mem_iff_getElem.1 hx
            exact hp.o i hi (by omega)) (below_trans HB0.o hb.o))
          clear HP2 HF HIH hp
          go_wp2_with fail
          exact HV.o)
/-- a tree that laws go over -/
structure FewV (x : Vl) (most : Nat) : Prop where
  wt : x.weight ≤ most
  dp : x.depth ≤ 61
  sh : x.All Sht
def FewPost (x : Vl) (most : Nat) (w : World) (e : Ending) (w' : World) : Prop := ∃ v : Bool, e = .returned (.bool v) ∧ (v = true → FewV x most) ∧ Below w.heap.size w w'
set_option maxHeartbeats 4000000 in
set_option maxRecDepth 1000000 in
theorem few1_any (x : Vt) (most : Nat) (w : World) (hok : x.Ok w) (hm : most ≤ 1000000) : Calls Tryz.prog 15 #[x.v, .int .i64 (most : Int)] w (FewPost x.m most w) := by
  have HX := hq (fun W (h : Below w.heap.size w W) => few0_any x most 0 W (hok.grow h) (by omega) (by omega) (by omega) (by omega))
  have HS := hq (fun W (h : Below w.heap.size w W) => short0_any x W (hok.grow h))
  have HP : Hq (∀ (v : Bool) W', (v = true → FewV x.m most) → Below w.heap.size w W' → FewPost x.m most w (.returned (.bool v)) W') := hq (fun v W' h1 h2 => ⟨v, rfl, h1, h2⟩)
  generalize FewPost x.m most w = PP at *
  obtain ⟨k, t, ⟨ko, kc, kl⟩, o, c, is⟩ := x
  rw [Vt.v_mk'] at *
  have hb0 := below_alloc w (.cells #[.int .i64 k, .string (st t), .slice ko kl.length kc, .slice o is.length c] 25)
  have HW0 := hq (Whole.made w 25 #[.int .i64 k, .string (st t), .slice ko kl.length kc, .slice o is.length c])
  have HB0 := hq hb0
  clear hok hb0
  generalize (Vt.mk k t ⟨ko, kc, kl⟩ o c is).m = X at *
  go_enter Tryz.func15, Tryz.ntmps15
  go_upto_region 1 with fail
  generalize w.heap.size = g at HW0
  generalize (w.alloc (.cells #[.int .i64 k, .string (st t), .slice ko kl.length kc, .slice o is.length c] 25)) = V0 at *
  have hVg := hq (fun wr (hb : Below V0.heap.size V0 wr) => four_cells (HW0.o.grow hb))
  obtain ⟨c0, c1, c2, c3⟩ := hVg.o V0 (Below.refl _ _)
  go_wp2_with fail
  refine (HX.o V0 HB0.o).mono ?_
  rintro e w2 ⟨n, rfl, hnb, hn, hb2⟩
  have HB2 := hq (below_trans HB0.o hb2)
  have HN := hq hn
  obtain ⟨d0, d1, d2, d3⟩ := hVg.o w2 hb2
  clear hb2 c0 c1 c2 c3 hn HX
  by_cases hn0 : 0 ≤ n
  · have hnd : decide (0 ≤ n) = true := decide_eq_true hn0
    have HN2 := hq (HN.o hn0)
    go_wp2_with fail
    refine (HS.o w2 HB2.o).mono ?_
    rintro e w3 ⟨v, rfl, hv, hb3⟩
    have HV := hq (HP.o v w3 (fun h => ⟨by have := HN2.o; omega, by have := HN2.o; omega, hv h⟩) (below_trans HB2.o hb3))
    clear hb3 hv HP HS
    go_wp2_with fail
    exact HV.o
  · have hnd : decide (0 ≤ n) = false := decide_eq_false hn0
    have HV := hq (HP.o false w2 (fun h => by cases h) HB2.o)
    clear HP HS HN
    go_wp2_with fail
    exact HV.o
end Go.Proofs.YtfibmmmbpfnccaaGreatDoor
