/-
  WALKS over trees: the document's Size and Depth; few, short, Few.
  WALK: the document's Equal of two trees.
  WALKS: value.walk over whatever is asked; value.Size, value.Depth.
  WALKS: value.asTheyStand; what remake makes.
  WALK: value.remake, whatever the order of a node's items.
-/
import Derived.Test.YtnlkokgekjlmmaaGreatDoorBas
import Derived.Test.YtnlkokgekjlmmaaGreatDoorProg
import Derived.BigQuiet
import Derived.Deep.RegionHeld3
import Derived.Deep.RegionWith
import Derived.Deep.CutRange
import Derived.IntWalk
import Derived.Laws.OwnMore
import Derived.Maps.AppendAt
import Derived.Deep.RegionLaw
namespace Go.Proofs.YtnlkokgekjlmmaaGreatDoor
open Go.RowKit
def IPost (n : Int) (w : World) (e : Ending) (w' : World) : Prop := e = .returned (.int .i64 n) ∧ Below w.heap.size w w'
def BPost (b : Bool) (w : World) (e : Ending) (w' : World) : Prop := e = .returned (.bool b) ∧ Below w.heap.size w w'
theorem four_cells {w : World} {g : Nat} {t : TypeId} {a b c d : Value} (h : Whole w g t #[a, b, c, d]) :
    w.cell? ⟨g, 0, none⟩ = some a ∧ w.cell? ⟨g, 1, none⟩ = some b ∧ w.cell? ⟨g, 2, none⟩ = some c ∧ w.cell? ⟨g, 3, none⟩ = some d := ⟨h.at_ 0, h.at_ 1, h.at_ 2, h.at_ 3⟩
theorem sizes_take {l : List Vt} {j : Nat} (h : j < l.length) : Vl.sizes ((l.take (j + 1)).map Vt.m) = Vl.sizes ((l.take j).map Vt.m) + l[j].m.size := by
  rw [List.take_succ_eq_append_getElem h, List.map_append, Vl.sizes_append]; simp [Vl.sizes]
theorem sizes_part (l : List Vt) (j : Nat) : Vl.sizes ((l.take j).map Vt.m) ≤ Vl.sizes (l.map Vt.m) := by
  have h : l.map Vt.m = (l.take j).map Vt.m ++ (l.drop j).map Vt.m := by rw [← List.map_append, List.take_append_drop]
  rw [h, Vl.sizes_append]; omega
theorem depths_take {l : List Vt} {j : Nat} (h : j < l.length) : Vl.depths ((l.take (j + 1)).map Vt.m) = max (Vl.depths ((l.take j).map Vt.m)) l[j].m.depth := by
  rw [List.take_succ_eq_append_getElem h, List.map_append, Vl.depths_append]; simp [Vl.depths]
theorem weights_take {l : List Vt} {j : Nat} (h : j < l.length) : Vl.weights ((l.take (j + 1)).map Vt.m) = Vl.weights ((l.take j).map Vt.m) + l[j].m.weight := by
  rw [List.take_succ_eq_append_getElem h, List.map_append, Vl.weights_append]; simp [Vl.weights]
def FewP (x : Vl) (left deep : Int) (w : World) (e : Ending) (w' : World) : Prop :=
  ∃ n : Int, e = .returned (.int .i64 n) ∧ (-9223372036854775808 ≤ n ∧ n ≤ left) ∧ (0 ≤ n → n + (x.weight : Int) = left ∧ deep + (x.depth : Int) ≤ 61) ∧ Below w.heap.size w w'
set_option maxHeartbeats 4000000 in
set_option maxRecDepth 1000000 in
theorem few0_any : ∀ (x : Vt) (left deep : Int) (w : World), x.Ok w → 0 ≤ left → left ≤ 1000000 → 0 ≤ deep → deep ≤ 1000 → Calls Tryz.prog 48 #[x.v, .int .i64 left, .int .i64 deep] w (FewP x.m left deep w) := Vt.ind (fun k t ks o c is ih left deep w hok hl0 hl1 hd0 hd1 => by
  obtain ⟨ko, kc, kl⟩ := ks
  have hn := hok.hl
  have hc := hok.hc
  have hkl : kl.length ≤ kc := hok.hks.le
  have hkc : kc ≤ maxLen := hok.hks.cp
  unfold maxLen at hc hkc
  rw [Vt.m_mk]
  rw [Vt.v_mk']
  simp only
  have HP : Hq (∀ (n : Int) W', (-9223372036854775808 ≤ n ∧ n ≤ left) → (0 ≤ n → n + ((1 + kl.length + Vl.weights (is.map Vt.m) : Nat) : Int) = left ∧ deep + ((Vl.depths (is.map Vt.m) + 1 : Nat) : Int) ≤ 61) → Below w.heap.size w W' → FewP (.mk k t kl (is.map Vt.m)) left deep w (.returned (.int .i64 n)) W') := hq (fun n W' h1 h2 h3 => ⟨n, rfl, h1, by simp only [Vl.weight, Vl.depth]; exact h2, h3⟩)
  have HIH := hq ih
  generalize FewP (.mk k t kl (is.map Vt.m)) left deep w = PP at *
  have hb0 := below_alloc w (.cells #[.int .i64 k, .string (st t), .slice ko kl.length kc, .slice o is.length c] 25)
  have HOK := hq (hok.grow hb0)
  have HW0 := hq (Whole.made w 25 #[.int .i64 k, .string (st t), .slice ko kl.length kc, .slice o is.length c])
  have HB0 := hq hb0
  clear hok ih hb0
  go_enter Tryz.func48, Tryz.ntmps48
  by_cases hdd : 60 < deep
  · have HV := hq (HP.o (-1) _ ⟨by omega, by omega⟩ (fun h => by omega) HB0.o)
    clear HP HIH
    go_wp2_with fail
    exact HV.o
  go_upto_region 3 with fail
  generalize w.heap.size = g at HW0
  generalize (w.alloc (.cells #[.int .i64 k, .string (st t), .slice ko kl.length kc, .slice o is.length c] 25)) = V0 at *
  have hVg := hq (fun wr (hb : Below V0.heap.size V0 wr) => four_cells (HW0.o.grow hb))
  obtain ⟨c0, c1, c2, c3⟩ := hVg.o V0 (Below.refl _ _)
  go_wp2_with fail
  clear c0 c1 c2 c3
  go_loopw [1, 7] (fun u i wr => ∃ (j : Nat) (m : Int), j ≤ is.length ∧ u = .int .i64 m ∧ i = .int .i64 (j : Int) ∧ (-9223372036854775808 ≤ m ∧ m ≤ left) ∧ Hq (0 ≤ m → m + ((1 + kl.length + Vl.weights ((is.take j).map Vt.m) : Nat) : Int) = left ∧ deep + ((Vl.depths ((is.take j).map Vt.m) + 1 : Nat) : Int) ≤ 61) ∧ Hq (Below V0.heap.size V0 wr)) (fun _ i _ => is.length - (intOf i).toNat)
  case atStart => exact ⟨0, left - 1 - kl.length, Nat.zero_le _, int_eq (by omega), rfl, ⟨by omega, by omega⟩, hq (fun h => by simp [Vl.weights, Vl.depths]; omega), hq (Below.refl _ _)⟩
  case round =>
    obtain ⟨j, m, hj, rfl, rfl, hmb, hm, hb⟩ := hrel
    obtain ⟨c0, c1, c2, c3⟩ := hVg.o wr hb.o
    by_cases h : j < is.length
    · have hz : (j : Int) < (is.length : Int) := by omega
      by_cases hm0 : 0 ≤ m
      · have hd0 : decide (0 ≤ m) = true := decide_eq_true hm0
        obtain ⟨b, f, ho, i0, i1, i2, i3⟩ := (HOK.o.grow hb.o).at_ j h
        have HC := hq (HIH.o is[j] (List.getElem_mem h) m (deep + 1) wr ((HOK.o.grow hb.o).item j h) hm0 (by omega) (by omega) (by omega))
        have HT := hq (weights_take h)
        have HD := hq (depths_take h)
        have HM := hq (fun (n : Int) (hn : 0 ≤ n → n + (is[j].m.weight : Int) = m ∧ deep + 1 + (is[j].m.depth : Int) ≤ 61) => (fun h0 => by
          have := hn h0
          have := hm.o hm0
          rw [HT.o, HD.o]
          omega : 0 ≤ n → n + ((1 + kl.length + Vl.weights ((is.take (j + 1)).map Vt.m) : Nat) : Int) = left ∧ deep + ((Vl.depths ((is.take (j + 1)).map Vt.m) + 1 : Nat) : Int) ≤ 61))
        clear HIH HT HD hm
        generalize is[j] = x at *
        subst ho
        go_wp2_with fail
        refine HC.o.mono ?_
        rintro e w2 ⟨n, rfl, hnb, hn2, hb2⟩
        have HB2 := hq (below_trans hb.o hb2)
        have HN2 := hq (HM.o n hn2)
        clear hb2 c0 c1 c2 c3 i0 i1 i2 i3 hn2 HC
        go_wp2_with fail
        go_roundw
        case rel => exact ⟨j + 1, _, h, rfl, int_eq (by omega), ⟨by omega, by omega⟩, HN2, HB2⟩
        case measure => simp [intOf]; omega
      · have hd0 : decide (0 ≤ m) = false := decide_eq_false hm0
        have HV := hq (HP.o m wr hmb (fun h => absurd h hm0) (below_trans HB0.o hb.o))
        clear HP HIH hm
        go_wp2_with fail
        exact HV.o
    · have hz : ¬ (j : Int) < (is.length : Int) := by omega
      have HV := hq (HP.o m wr hmb (fun h => by
        have := hm.o h
        rwa [show j = is.length by omega, List.take_length] at this) (below_trans HB0.o hb.o))
      clear HP HIH hm
      go_wp2_with fail
      exact HV.o)
def Sht (v : Vl) : Prop := v.t.length ≤ 2048 ∧ ∀ x ∈ v.ks, x.length ≤ 1024
def ShtP (x : Vl) (w : World) (e : Ending) (w' : World) : Prop := ∃ v : Bool, e = .returned (.bool v) ∧ (v = true → x.All Sht) ∧ Below w.heap.size w w'
set_option maxHeartbeats 4000000 in
set_option maxRecDepth 1000000 in
theorem short0_any : ∀ (x : Vt) (w : World), x.Ok w → Calls Tryz.prog 49 #[x.v] w (ShtP x.m w) := Vt.ind (fun k t ks o c is ih w hok => by
  obtain ⟨ko, kc, kl⟩ := ks
  have hn := hok.hl
  have hc := hok.hc
  have hkl : kl.length ≤ kc := hok.hks.le
  have hkc : kc ≤ maxLen := hok.hks.cp
  have htl := hok.ht
  have hktl := hok.hkt
  simp only at hktl
  unfold maxLen at hc hkc htl hktl
  rw [Vt.m_mk]
  rw [Vt.v_mk']
  simp only
  have HF : Hq (∀ W', Below w.heap.size w W' → ShtP (.mk k t kl (is.map Vt.m)) w (.returned (.bool false)) W') := hq (fun W' h3 => ⟨false, rfl, fun h => (by cases h), h3⟩)
  have HP : Hq (∀ W', t.length ≤ 2048 → (∀ x ∈ kl, x.length ≤ 1024) → (∀ x ∈ is, x.m.All Sht) → Below w.heap.size w W' → ShtP (.mk k t kl (is.map Vt.m)) w (.returned (.bool true)) W') := hq (fun W' h1 h2 h3 h4 => ⟨true, rfl, fun _ => .mk _ _ _ _ ⟨h1, h2⟩ (fun x hx => by
    obtain ⟨y, hy, rfl⟩ := List.mem_map.1 hx
    exact h3 y hy), h4⟩)
  have HIH := hq ih
  generalize ShtP (.mk k t kl (is.map Vt.m)) w = PP at *
  have hb0 := below_alloc w (.cells #[.int .i64 k, .string (st t), .slice ko kl.length kc, .slice o is.length c] 25)
  have HOK := hq (hok.grow hb0)
  have HW0 := hq (Whole.made w 25 #[.int .i64 k, .string (st t), .slice ko kl.length kc, .slice o is.length c])
  have HB0 := hq hb0
  clear hok ih hb0
  go_enter Tryz.func49, Tryz.ntmps49
  go_upto_region 1 with fail
  generalize w.heap.size = g at HW0
  generalize (w.alloc (.cells #[.int .i64 k, .string (st t), .slice ko kl.length kc, .slice o is.length c] 25)) = V0 at *
  have hVg := hq (fun wr (hb : Below V0.heap.size V0 wr) => four_cells (HW0.o.grow hb))
  obtain ⟨c0, c1, c2, c3⟩ := hVg.o V0 (Below.refl _ _)
  by_cases ht2 : t.length ≤ 2048
  case neg =>
    have hz : (2048 : Int) < (t.length : Int) := by omega
    have HV := hq (HF.o V0 HB0.o)
    clear HP HF HIH
    go_wp2_with fail
    exact HV.o
  have hz : ¬ (2048 : Int) < (t.length : Int) := by omega
  have HP1 := hq (fun W' => HP.o W' ht2)
  clear HP
  go_wp2_with fail
  go_loop [3] (fun i => ∃ j : Nat, j ≤ kl.length ∧ i = .int .i64 (j : Int) ∧ Hq (∀ a (h : a < kl.length), a < j → kl[a].length ≤ 1024)) (fun i => kl.length - (intOf i).toNat)
  case atStart => exact ⟨0, Nat.zero_le _, rfl, hq (fun a _ h => absurd h (Nat.not_lt_zero _))⟩
  case round =>
    obtain ⟨j, hj, rfl, hp⟩ := hrel
    by_cases h : j < kl.length
    · have hzj : (j : Int) < (kl.length : Int) := by omega
      obtain ⟨b, f, ho, i0⟩ := HOK.o.hks.rd j h
      simp only at ho i0
      have hx := hktl kl[j] (List.getElem_mem h)
      have HN : Hq (kl[j].length ≤ 1024 → ∀ a (h : a < kl.length), a < j + 1 → kl[a].length ≤ 1024) := hq (fun h1 a ha h2 => by
        by_cases e : a = j
        · subst e; exact h1
        · exact hp.o a ha (by omega))
      clear hp hktl
      generalize kl[j] = x at *
      subst ho
      by_cases hx2 : x.length ≤ 1024
      · have hxz : ¬ (1024 : Int) < (x.length : Int) := by omega
        have HN2 := hq (HN.o hx2)
        clear HN
        go_wp2_with fail
        go_round
        case rel => exact ⟨j + 1, h, int_eq (by omega), HN2⟩
        case measure => simp [intOf]; omega
      · have hxz : (1024 : Int) < (x.length : Int) := by omega
        have HV := hq (HF.o V0 HB0.o)
        clear HP1 HF HIH HN
        go_wp2_with fail
        exact HV.o
    · have hzj : ¬ (j : Int) < (kl.length : Int) := by omega
      have HP2 := hq (fun W' => HP1.o W' (fun x hx => by
        obtain ⟨i, hi, rfl⟩ := List.mem_iff_getElem.1 hx
        exact hp.o i hi (by omega)))
      clear HP1 hp hktl
      go_wp2_with fail
      clear c0 c1 c2 c3
      go_loopw [4, 5] (fun i _ wr => ∃ (j : Nat), j ≤ is.length ∧ i = .int .i64 (j : Int) ∧ Hq (∀ a (h : a < is.length), a < j → is[a].m.All Sht) ∧ Hq (Below V0.heap.size V0 wr)) (fun i _ _ => is.length - (intOf i).toNat)
      case atStart => exact ⟨0, Nat.zero_le _, rfl, hq (fun a _ h => absurd h (Nat.not_lt_zero _)), hq (Below.refl _ _)⟩
      case round =>
        obtain ⟨j, hj, rfl, hp, hb⟩ := hrel
        obtain ⟨c0, c1, c2, c3⟩ := hVg.o wr hb.o
        by_cases h : j < is.length
        · have hzj : (j : Int) < (is.length : Int) := by omega
          obtain ⟨b, f, ho, i0, i1, i2, i3⟩ := (HOK.o.grow hb.o).at_ j h
          have HC := hq (HIH.o is[j] (List.getElem_mem h) wr ((HOK.o.grow hb.o).item j h))
          have HN : Hq (is[j].m.All Sht → ∀ a (h : a < is.length), a < j + 1 → is[a].m.All Sht) := hq (fun h1 a ha h2 => by
            by_cases e : a = j
            · subst e; exact h1
            · exact hp.o a ha (by omega))
          clear HIH hp
          generalize is[j] = x at *
          subst ho
          go_wp2_with fail
          refine HC.o.mono ?_
          rintro e w2 ⟨v, rfl, hv, hb2⟩
          have HB2 := hq (below_trans hb.o hb2)
          clear hb2 c0 c1 c2 c3 i0 i1 i2 i3
          cases v with
          | true =>
            have HN2 := hq (HN.o (hv rfl))
            clear HN hv
            go_wp2_with fail
            go_roundw
            case rel => exact ⟨j + 1, h, int_eq (by omega), HN2, HB2⟩
            case measure => simp [intOf]; omega
          | false =>
            have HV := hq (HF.o w2 (below_trans HB0.o HB2.o))
            clear HN hv HP2 HF
            go_wp2_with fail
            exact HV.o
        · have hzj : ¬ (j : Int) < (is.length : Int) := by omega
          have HV := hq (HP2.o wr (fun x hx => by
            obtain ⟨i, hi, rfl⟩ := List.mem_iff_getElem.1 hx
            exact hp.o i hi (by omega)) (below_trans HB0.o hb.o))
          clear HP2 HF HIH hp
          go_wp2_with fail
          exact HV.o)
structure FewV (x : Vl) (most : Nat) : Prop where
  wt : x.weight ≤ most
  dp : x.depth ≤ 61
  sh : x.All Sht
def FewPost (x : Vl) (most : Nat) (w : World) (e : Ending) (w' : World) : Prop := ∃ v : Bool, e = .returned (.bool v) ∧ (v = true → FewV x most) ∧ Below w.heap.size w w'
set_option maxHeartbeats 4000000 in
set_option maxRecDepth 1000000 in
theorem few1_any (x : Vt) (most : Nat) (w : World) (hok : x.Ok w) (hm : most ≤ 1000000) : Calls Tryz.prog 14 #[x.v, .int .i64 (most : Int)] w (FewPost x.m most w) := by
  have HX := hq (fun W (h : Below w.heap.size w W) => few0_any x most 0 W (hok.grow h) (by omega) (by omega) (by omega) (by omega))
  have HS := hq (fun W (h : Below w.heap.size w W) => short0_any x W (hok.grow h))
  have HP : Hq (∀ (v : Bool) W', (v = true → FewV x.m most) → Below w.heap.size w W' → FewPost x.m most w (.returned (.bool v)) W') := hq (fun v W' h1 h2 => ⟨v, rfl, h1, h2⟩)
  generalize FewPost x.m most w = PP at *
  obtain ⟨k, t, ⟨ko, kc, kl⟩, o, c, is⟩ := x
  rw [Vt.v_mk'] at *
  have hb0 := below_alloc w (.cells #[.int .i64 k, .string (st t), .slice ko kl.length kc, .slice o is.length c] 25)
  have HW0 := hq (Whole.made w 25 #[.int .i64 k, .string (st t), .slice ko kl.length kc, .slice o is.length c])
  have HB0 := hq hb0
  clear hok hb0
  generalize (Vt.mk k t ⟨ko, kc, kl⟩ o c is).m = X at *
  go_enter Tryz.func14, Tryz.ntmps14
  go_upto_region 1 with fail
  generalize w.heap.size = g at HW0
  generalize (w.alloc (.cells #[.int .i64 k, .string (st t), .slice ko kl.length kc, .slice o is.length c] 25)) = V0 at *
  have hVg := hq (fun wr (hb : Below V0.heap.size V0 wr) => four_cells (HW0.o.grow hb))
  obtain ⟨c0, c1, c2, c3⟩ := hVg.o V0 (Below.refl _ _)
  go_wp2_with fail
  refine (HX.o V0 HB0.o).mono ?_
  rintro e w2 ⟨n, rfl, hnb, hn, hb2⟩
  have HB2 := hq (below_trans HB0.o hb2)
  have HN := hq hn
  obtain ⟨d0, d1, d2, d3⟩ := hVg.o w2 hb2
  clear hb2 c0 c1 c2 c3 hn HX
  by_cases hn0 : 0 ≤ n
  · have hnd : decide (0 ≤ n) = true := decide_eq_true hn0
    have HN2 := hq (HN.o hn0)
    go_wp2_with fail
    refine (HS.o w2 HB2.o).mono ?_
    rintro e w3 ⟨v, rfl, hv, hb3⟩
    have HV := hq (HP.o v w3 (fun h => ⟨by have := HN2.o; omega, by have := HN2.o; omega, hv h⟩) (below_trans HB2.o hb3))
    clear hb3 hv HP HS
    go_wp2_with fail
    exact HV.o
  · have hnd : decide (0 ≤ n) = false := decide_eq_false hn0
    have HV := hq (HP.o false w2 (fun h => by cases h) HB2.o)
    clear HP HS HN
    go_wp2_with fail
    exact HV.o
theorem below_drawnR {B : Nat} {a w : World} (h : Below B a w) (n : Nat) : Below B a (w.drewN n) := ⟨h.os, h.tape, h.output, h.size, h.block⟩
def EqPost (a b : Vl) (w : World) (e : Ending) (w' : World) : Prop := ∃ v : Bool, e = .returned (.bool v) ∧ (v = true ↔ a = b) ∧ Below w.heap.size w w'
theorem two_boxes (w : World) (T : TypeId) (A B : Array Value) : Below w.heap.size w ((w.alloc (.cells A T)).alloc (.cells B T)) ∧ Whole ((w.alloc (.cells A T)).alloc (.cells B T)) w.heap.size T A ∧ Whole ((w.alloc (.cells A T)).alloc (.cells B T)) (w.heap.size + 1) T B := by
  have h1 := Whole.made (w.alloc (.cells A T)) T B
  rw [World.size_alloc] at h1
  exact ⟨(below_alloc w _).alloc (by rw [World.size_alloc]; omega) _, (Whole.made w T A).alloc _, h1⟩
theorem take_succ_eq {α β : Type} (f : α → β) {l l' : List α} {i : Nat} (h : i < l.length) (h' : i < l'.length) (e : (l.take i).map f = (l'.take i).map f) (e2 : f l[i] = f l'[i]) : (l.take (i + 1)).map f = (l'.take (i + 1)).map f := by
  rw [List.take_succ_eq_append_getElem h, List.take_succ_eq_append_getElem h', List.map_append, List.map_append, e]
  simp only [List.map_cons, List.map_nil, e2]
theorem ne_at {α β : Type} (f : α → β) {l l' : List α} {i : Nat} (h : i < l.length) (h' : i < l'.length) (e2 : f l[i] ≠ f l'[i]) : l.map f ≠ l'.map f := fun e => by
  have h1 : (l.map f)[i]? = (l'.map f)[i]? := by rw [e]
  rw [List.getElem?_map, List.getElem?_map, List.getElem?_eq_getElem h, List.getElem?_eq_getElem h'] at h1
  exact e2 (Option.some.inj h1)
set_option maxHeartbeats 8000000 in
set_option maxRecDepth 1000000 in
theorem equal_any : ∀ (x y : Vt) (w : World), x.Ok w → y.Ok w → Calls Tryz.prog 22 #[x.v, y.v] w (EqPost x.m y.m w) := Vt.ind (fun k t ks o c is ih y w hok hok' => by
  obtain ⟨ko, kc, kl⟩ := ks
  obtain ⟨k', t', ⟨ko', kc', kl'⟩, o', c', is'⟩ := y
  have hn := hok.hl
  have hc := hok.hc
  have hkl : kl.length ≤ kc := hok.hks.le
  have hkc : kc ≤ maxLen := hok.hks.cp
  have hn' := hok'.hl
  have hc' := hok'.hc
  have hkl' : kl'.length ≤ kc' := hok'.hks.le
  have hkc' : kc' ≤ maxLen := hok'.hks.cp
  unfold maxLen at hc hkc hc' hkc'
  rw [Vt.m_mk, Vt.m_mk, Vt.v_mk', Vt.v_mk']
  simp only
  have HF : Hq (∀ W', (k = k' → t = t' → kl = kl' → is.map Vt.m = is'.map Vt.m → False) → Below w.heap.size w W' → EqPost (.mk k t kl (is.map Vt.m)) (.mk k' t' kl' (is'.map Vt.m)) w (.returned (.bool false)) W') := hq (fun W' h h3 => ⟨false, rfl, ⟨fun h => (by cases h), fun e => by
    injection e with e1 e2 e3 e4
    exact (h e1 e2 e3 e4).elim⟩, h3⟩)
  have HP : Hq (∀ W', k = k' → t = t' → kl = kl' → is.map Vt.m = is'.map Vt.m → Below w.heap.size w W' → EqPost (.mk k t kl (is.map Vt.m)) (.mk k' t' kl' (is'.map Vt.m)) w (.returned (.bool true)) W') := hq (fun W' h1 h2 h3 h4 h5 => ⟨true, rfl, ⟨fun _ => by rw [h1, h2, h3, h4], fun _ => rfl⟩, h5⟩)
  have HIH := hq ih
  generalize EqPost (.mk k t kl (is.map Vt.m)) (.mk k' t' kl' (is'.map Vt.m)) w = PP at *
  obtain ⟨hb0, hw0, hw1⟩ := two_boxes w 25 #[.int .i64 k, .string (st t), .slice ko kl.length kc, .slice o is.length c] #[.int .i64 k', .string (st t'), .slice ko' kl'.length kc', .slice o' is'.length c']
  have HOK := hq (hok.grow hb0)
  have HOK' := hq (hok'.grow hb0)
  have HW0 := hq hw0
  have HW1 := hq hw1
  have HB0 := hq hb0
  clear hok hok' ih hb0 hw0 hw1
  go_enter Tryz.func22, Tryz.ntmps22
  go_upto_region 1 with fail
  generalize w.heap.size = g at HW0 HW1
  generalize ((w.alloc (.cells #[.int .i64 k, .string (st t), .slice ko kl.length kc, .slice o is.length c] 25)).alloc (.cells #[.int .i64 k', .string (st t'), .slice ko' kl'.length kc', .slice o' is'.length c'] 25)) = V0 at *
  have hVg := hq (fun wr (hb : Below V0.heap.size V0 wr) => four_cells (HW0.o.grow hb))
  have hVh := hq (fun wr (hb : Below V0.heap.size V0 wr) => four_cells (HW1.o.grow hb))
  obtain ⟨c0, c1, c2, c3⟩ := hVg.o V0 (Below.refl _ _)
  obtain ⟨d0, d1, d2, d3⟩ := hVh.o V0 (Below.refl _ _)
  by_cases hk : k = k'
  case neg =>
    have hz : (k != k') = true := bne_iff_ne.2 hk
    have HV := hq (HF.o V0 (fun h _ _ _ => hk h) HB0.o)
    clear HP HF HIH hk
    go_wp2_with fail
    exact HV.o
  by_cases ht : t = t'
  case neg =>
    have hz : (k != k') = false := by rw [bne, beq_iff_eq.2 hk]; rfl
    have hz2 : (t == t') = false := beq_eq_false_iff_ne.2 ht
    have HV := hq (HF.o V0 (fun _ h _ _ => ht h) HB0.o)
    clear HP HF HIH hk ht
    go_wp2_with fail
    exact HV.o
  by_cases hkll : kl.length = kl'.length
  case neg =>
    have hz : (k != k') = false := by rw [bne, beq_iff_eq.2 hk]; rfl
    have hz2 : (t == t') = true := beq_iff_eq.2 ht
    have hz3 : ((kl.length : Int) != (kl'.length : Int)) = true := bne_iff_ne.2 (by omega)
    have HV := hq (HF.o V0 (fun _ _ h _ => hkll (by rw [h])) HB0.o)
    clear HP HF HIH hk ht hkll
    go_wp2_with fail
    exact HV.o
  by_cases hill : is.length = is'.length
  case neg =>
    have hz : (k != k') = false := by rw [bne, beq_iff_eq.2 hk]; rfl
    have hz2 : (t == t') = true := beq_iff_eq.2 ht
    have hz3 : ((kl.length : Int) != (kl'.length : Int)) = false := by rw [bne, beq_iff_eq.2 (by omega)]; rfl
    have hz4 : ((is.length : Int) != (is'.length : Int)) = true := bne_iff_ne.2 (by omega)
    have HV := hq (HF.o V0 (fun _ _ _ h => hill (by have := congrArg List.length h; simpa using this)) HB0.o)
    clear HP HF HIH hk ht hkll hill
    go_wp2_with fail
    exact HV.o
  have hz : (k != k') = false := by rw [bne, beq_iff_eq.2 hk]; rfl
  have hz2 : (t == t') = true := beq_iff_eq.2 ht
  have hz3 : ((kl.length : Int) != (kl'.length : Int)) = false := by rw [bne, beq_iff_eq.2 (by omega)]; rfl
  have hz4 : ((is.length : Int) != (is'.length : Int)) = false := by rw [bne, beq_iff_eq.2 (by omega)]; rfl
  have HF1 := hq (fun W' (h : kl = kl' → is.map Vt.m = is'.map Vt.m → False) => HF.o W' (fun _ _ h3 h4 => h h3 h4))
  have HP1 := hq (fun W' => HP.o W' hk ht)
  have HKL := hq hkll
  have HIL := hq hill
  clear HP HF hk ht hkll hill
  go_wp2_with fail
  clear hz hz2 hz3 hz4 c0 c1 c2 c3 d0 d1 d2 d3
  go_loopw [5] (fun i wr => ∃ j : Nat, j ≤ kl.length ∧ i = .int .i64 (j : Int) ∧ Hq ((kl.take j).map id = (kl'.take j).map id) ∧ Hq (Below V0.heap.size V0 wr)) (fun i _ => kl.length - (intOf i).toNat)
  case atStart => exact ⟨0, Nat.zero_le _, rfl, hq rfl, hq (Below.refl _ _)⟩
  case round =>
    obtain ⟨j, hj, rfl, hp, hb⟩ := hrel
    obtain ⟨c0, c1, c2, c3⟩ := hVg.o wr hb.o
    obtain ⟨d0, d1, d2, d3⟩ := hVh.o wr hb.o
    by_cases h : j < kl.length
    · have h' : j < kl'.length := by have := HKL.o; omega
      have hzj : (j : Int) < (kl.length : Int) := by omega
      have hzj' : (j : Int) < (kl'.length : Int) := by omega
      obtain ⟨b, f, ho, i0⟩ := (HOK.o.grow hb.o).hks.rd j h
      obtain ⟨b', f', ho', i0'⟩ := (HOK'.o.grow hb.o).hks.rd j h'
      simp only at ho i0 ho' i0'
      have HN := hq (take_succ_eq id h h' hp.o)
      have HE := hq (@ne_at _ _ id kl kl' j h h')
      simp only [id] at HN HE
      clear hp
      generalize kl[j] = p at *
      generalize kl'[j] = q at *
      subst ho ho'
      by_cases hpq : p = q
      · have e1 : (p == q) = true := beq_iff_eq.2 hpq
        have HN2 := hq (HN.o hpq)
        have HD := hq (fun n => below_drawnR hb.o n)
        clear HN HE hpq HIH HF1 HP1
        go_wp2_with fail
        go_quiet (fail)
        go_wp2_with fail
        go_roundw
        case rel => exact ⟨j + 1, h, int_eq (by omega), HN2, hq (HD.o _)⟩
        case measure => simp [intOf]; omega
      · have e1 : (p == q) = false := beq_eq_false_iff_ne.2 hpq
        have HV := hq (fun n => HF1.o (wr.drewN n) (fun e _ => HE.o hpq (by rw [e])) (below_trans HB0.o (below_drawnR hb.o n)))
        clear HN HE hpq HIH HF1 HP1
        go_wp2_with fail
        go_quiet (fail)
        go_wp2_with fail
        exact HV.o _
    · have hzj : ¬ (j : Int) < (kl.length : Int) := by omega
      have HKE : Hq (kl = kl') := hq (by
        have h1 := hp.o
        rw [List.take_of_length_le (by omega), List.take_of_length_le (by have := HKL.o; omega)] at h1
        simpa using h1)
      clear hp
      go_wp2_with fail
      clear c0 c1 c2 c3 d0 d1 d2 d3
      obtain ⟨wq, hwq⟩ : ∃ wq, wq = wr := ⟨_, rfl⟩
      subst hwq
      have HBQ := hq hb.o
      go_loopw [6, 7] (fun i _ wr => ∃ j : Nat, j ≤ is.length ∧ i = .int .i64 (j : Int) ∧ Hq ((is.take j).map Vt.m = (is'.take j).map Vt.m) ∧ Hq (Below V0.heap.size V0 wr)) (fun i _ _ => is.length - (intOf i).toNat)
      case atStart => exact ⟨0, Nat.zero_le _, rfl, hq rfl, HBQ⟩
      case round =>
        obtain ⟨i, hi, rfl, hp, hb⟩ := hrel
        obtain ⟨c0, c1, c2, c3⟩ := hVg.o wr hb.o
        obtain ⟨d0, d1, d2, d3⟩ := hVh.o wr hb.o
        by_cases h : i < is.length
        · have h' : i < is'.length := by have := HIL.o; omega
          have hzi : (i : Int) < (is.length : Int) := by omega
          have hzi' : (i : Int) < (is'.length : Int) := by omega
          obtain ⟨b, f, ho, hia⟩ := (HOK.o.grow hb.o).at_ i h
          obtain ⟨b', f', ho', hib⟩ := (HOK'.o.grow hb.o).at_ i h'
          have HN := hq (take_succ_eq Vt.m h h' hp.o)
          have HE := hq (@ne_at _ _ Vt.m is is' i h h')
          have HC := hq (fun W (hbb : Below wr.heap.size wr W) => HIH.o is[i] (List.getElem_mem h) is'[i] W (((HOK.o.grow hb.o).item i h).grow hbb) (((HOK'.o.grow hb.o).item i h').grow hbb))
          clear hp HIH
          generalize is[i] = p at *
          generalize is'[i] = q at *
          subst ho ho'
          have HS := hq (fun V (hbb : Below wr.heap.size wr V) => (⟨hbb, (hVg.o V (below_trans hb.o hbb)).2.2.2, (hVh.o V (below_trans hb.o hbb)).2.2.2, (hia.grow hbb).c0, (hia.grow hbb).c1, (hia.grow hbb).c2, (hia.grow hbb).c3, (hib.grow hbb).c0, (hib.grow hbb).c1, (hib.grow hbb).c2, (hib.grow hbb).c3⟩ : Below wr.heap.size wr V ∧ V.cell? ⟨g, 3, none⟩ = some (.slice (some ⟨b, f, none⟩) is.length c) ∧ V.cell? ⟨g + 1, 3, none⟩ = some (.slice (some ⟨b', f', none⟩) is'.length c') ∧ V.cell? ⟨b, f + i * 4, none⟩ = some (.int .i64 p.k) ∧ V.cell? ⟨b, f + i * 4 + 1, none⟩ = some (.string (st p.t)) ∧ V.cell? ⟨b, f + i * 4 + 2, none⟩ = some p.ks.v ∧ V.cell? ⟨b, f + i * 4 + 3, none⟩ = some p.row ∧ V.cell? ⟨b', f' + i * 4, none⟩ = some (.int .i64 q.k) ∧ V.cell? ⟨b', f' + i * 4 + 1, none⟩ = some (.string (st q.t)) ∧ V.cell? ⟨b', f' + i * 4 + 2, none⟩ = some q.ks.v ∧ V.cell? ⟨b', f' + i * 4 + 3, none⟩ = some q.row))
          obtain ⟨a0, a1, a2, a3⟩ := hia
          obtain ⟨b0, b1, b2, b3⟩ := hib
          go_wp2_with fail
          go_region_held3 (fun V => Below wr.heap.size wr V ∧ V.cell? ⟨g, 3, none⟩ = some (.slice (some ⟨b, f, none⟩) is.length c) ∧ V.cell? ⟨g + 1, 3, none⟩ = some (.slice (some ⟨b', f', none⟩) is'.length c') ∧ V.cell? ⟨b, f + i * 4, none⟩ = some (.int .i64 p.k) ∧ V.cell? ⟨b, f + i * 4 + 1, none⟩ = some (.string (st p.t)) ∧ V.cell? ⟨b, f + i * 4 + 2, none⟩ = some p.ks.v ∧ V.cell? ⟨b, f + i * 4 + 3, none⟩ = some p.row ∧ V.cell? ⟨b', f' + i * 4, none⟩ = some (.int .i64 q.k) ∧ V.cell? ⟨b', f' + i * 4 + 1, none⟩ = some (.string (st q.t)) ∧ V.cell? ⟨b', f' + i * 4 + 2, none⟩ = some q.ks.v ∧ V.cell? ⟨b', f' + i * 4 + 3, none⟩ = some q.row)
            (first | exact HS.o _ ((Below.refl _ _).drew) | exact hT2)
            ((go_at_call 22; refine (HC.o _ (And.left (by assumption))).mono ?_; rintro e' w9 ⟨v, rfl, hv, hb9⟩; have hT2 := HS.o w9 (below_trans (And.left (by assumption)) hb9)))
          have HB2 := hq (below_trans hb.o hT2.1)
          clear hT2 HS HC a0 a1 a2 a3 b0 b1 b2 b3 c0 c1 c2 c3 d0 d1 d2 d3
          cases v with
          | true =>
            have HN2 := hq (HN.o (hv.1 rfl))
            clear HN HE hv HF1 HP1
            go_wp2_with fail
            go_roundw
            case rel => exact ⟨i + 1, h, int_eq (by omega), HN2, HB2⟩
            case measure => simp [intOf]; omega
          | false =>
            have HV := hq (HF1.o _ (fun _ => HE.o (fun e => by have := hv.2 e; cases this)) (below_trans HB0.o HB2.o))
            clear HN HE hv HF1 HP1
            go_wp2_with fail
            exact HV.o
        · have hzi : ¬ (i : Int) < (is.length : Int) := by omega
          have HV := hq (HP1.o wr HKE.o (by
            have h1 := hp.o
            rwa [List.take_of_length_le (by omega), List.take_of_length_le (by have := HIL.o; omega)] at h1) (below_trans HB0.o hb.o))
          clear HF1 HP1 HIH hp
          go_wp2_with fail
          exact HV.o)
structure Kp (C : Nat → Prop) (w w' : World) : Prop where
  os : w'.os = w.os
  tape : w'.tape = w.tape
  output : w'.output = w.output
  size : w.heap.size ≤ w'.heap.size
  block : ∀ k, k < w.heap.size → ¬ C k → w'.heap[k]? = w.heap[k]?
section
variable {C : Nat → Prop} {w w' w'' : World}
theorem Kp.refl (C : Nat → Prop) (w : World) : Kp C w w := ⟨rfl, rfl, rfl, Nat.le_refl _, fun _ _ _ => rfl⟩
theorem Kp.trans (h : Kp C w w') (h' : Kp C w' w'') : Kp C w w'' :=
  ⟨h'.os.trans h.os, h'.tape.trans h.tape, h'.output.trans h.output, Nat.le_trans h.size h'.size, fun k hk hc => (h'.block k (Nat.lt_of_lt_of_le hk h.size) hc).trans (h.block k hk hc)⟩
theorem Kp.of (h : Below w.heap.size w w') : Kp C w w' := ⟨h.os, h.tape, h.output, h.size, fun k hk _ => h.block k hk⟩
theorem Kp.below {B : Nat} {a : World} (h : Kp C w w') (hB : ∀ k, C k → B ≤ k) (hb : Below B a w) (hs : B ≤ w.heap.size) : Below B a w' :=
  ⟨h.os.trans hb.os, h.tape.trans hb.tape, h.output.trans hb.output, Nat.le_trans hb.size h.size, fun k hk => (h.block k (Nat.lt_of_lt_of_le hk hs) (fun hc => by have := hB k hc; omega)).trans (hb.block k hk)⟩
theorem Kp.whole {g : Nat} {t : TypeId} {cs : Array Value} (h : Kp C w w') (hw : Whole w g t cs) (hg : ¬ C g) : Whole w' g t cs := (h.block g hw.lt hg).trans hw
theorem Kp.mono {C' : Nat → Prop} (h : Kp C w w') (hc : ∀ k, C k → C' k) : Kp C' w w' := ⟨h.os, h.tape, h.output, h.size, fun k hk hn => h.block k hk (fun e => hn (hc k e))⟩
theorem Kp.set (w : World) (p : Addr) (u : Value) (hp : C p.block) : Kp C w (w.setCell p u) :=
  ⟨rfl, rfl, rfl, by simp [World.setCell], fun k _ hn => Below.heap_setCell w p u k (fun e => hn (by rw [e]; exact hp))⟩
end
theorem visitsL_append (d : Nat) (a b : List Vl) : Vl.visitsL d (a ++ b) = Vl.visitsL d a ++ Vl.visitsL d b := by
  induction a with
  | nil => simp [Vl.visitsL]
  | cons v l ih => simp only [List.cons_append, Vl.visitsL, ih, List.append_assoc]
structure Asks (w0 : World) (C : Nat → Prop) (m0 : Nat) (I : List (Vl × Nat) → World → Prop) : Prop where
  c0 : ∀ k, C k → w0.heap.size ≤ k ∧ k < m0
  below : ∀ pre W, I pre W → Below w0.heap.size w0 W ∧ m0 ≤ W.heap.size
  grow : ∀ pre W W', I pre W → Below W.heap.size W W' → I pre W'
def AskPost (C : Nat → Prop) (I : List (Vl × Nat) → World → Prop) (b : Bool) (pre : List (Vl × Nat)) (w : World) (e : Ending) (w' : World) : Prop := e = .returned (.bool b) ∧ I pre w' ∧ Kp C w w'
set_option maxHeartbeats 8000000 in
set_option maxRecDepth 1000000 in
theorem walk_any {w0 : World} {C : Nat → Prop} {m0 F : Nat} {caps : Array Value} {I : List (Vl × Nat) → World → Prop} (Q : Vl → Prop) (hA : Asks w0 C m0 I) (ok : List (Vl × Nat) → Vl × Nat → Bool)
    (hcf : ∀ (args : Array Value) (w : World), (callFunc F args).run Tryz.prog w = .ok (.enter F args) w)
    (hask : ∀ (x : Vt) (d : Nat) (pre : List (Vl × Nat)) (W : World), x.Ok w0 → x.m.All Q → I pre W → d ≤ 4611686018427387904 → pre.length < 4611686018427387904 → Calls Tryz.prog F (#[x.v, .int .i64 (d : Int)] ++ caps) W (AskPost C I (ok pre (x.m, d)) (pre ++ [(x.m, d)]) W)) :
    ∀ (x : Vt) (d : Nat) (pre : List (Vl × Nat)) (W : World), x.Ok w0 → x.m.All Q → I pre W → d + x.m.depth ≤ 4611686018427387904 → pre.length + x.m.size ≤ 4611686018427387904 → Calls Tryz.prog 59 #[x.v, .int .i64 (d : Int), .func (.func F) #[] caps] W (AskPost C I (goV ok pre (x.m.visits d)).1 (goV ok pre (x.m.visits d)).2 W) := Vt.ind (fun k t ks o c is ih d pre W hok hal hI hd hz => by
  obtain ⟨ko, kc, kl⟩ := ks
  have hn := hok.hl
  have hc := hok.hc
  have HASK := hq (fun W' (hI' : I pre W') => hask _ d pre W' hok hal hI' (by omega) (by have := Vl.size_pos (Vt.mk k t ⟨ko, kc, kl⟩ o c is).m; omega))
  unfold maxLen at hc
  rw [Vt.m_mk] at *
  rw [Vt.v_mk'] at *
  simp only at *
  simp only [Vl.visits, Vl.depth, Vl.size] at *
  have hali := Vl.All.items hal
  generalize hX : Vl.mk k t kl (is.map Vt.m) = X at *
  have HP : Hq (∀ (b : Bool) q W', goV ok pre ((X, d) :: Vl.visitsL (d + 1) (is.map Vt.m)) = (b, q) → I q W' → Kp C W W' → AskPost C I (goV ok pre ((X, d) :: Vl.visitsL (d + 1) (is.map Vt.m))).1 (goV ok pre ((X, d) :: Vl.visitsL (d + 1) (is.map Vt.m))).2 W (.returned (.bool b)) W') := hq (fun b q W' h h1 h2 => by rw [h]; exact ⟨rfl, h1, h2⟩)
  have HIH := hq (fun (x : Vt) (hx : x ∈ is) p W' (h : x.Ok w0) (h2 : I p W') (h3 : p.length + x.m.size ≤ 4611686018427387904) => ih x hx (d + 1) p W' h (hali x.m (List.mem_map.2 ⟨x, hx, rfl⟩)) h2 (by have := Vl.depths_le x.m (List.mem_map.2 ⟨x, hx, rfl⟩); omega) h3)
  have HZ := hq hz
  have HG : Hq (goV ok pre ((X, d) :: Vl.visitsL (d + 1) (is.map Vt.m)) = if ok pre (X, d) = true then goV ok (pre ++ [(X, d)]) (Vl.visitsL (d + 1) (is.map Vt.m)) else (false, pre ++ [(X, d)])) := hq rfl
  generalize AskPost C I (goV ok pre ((X, d) :: Vl.visitsL (d + 1) (is.map Vt.m))).1 (goV ok pre ((X, d) :: Vl.visitsL (d + 1) (is.map Vt.m))).2 W = PP at *
  generalize goV ok pre ((X, d) :: Vl.visitsL (d + 1) (is.map Vt.m)) = GV at *
  have hdz : (d : Int) ≤ 4611686018427387904 := by omega
  have hb0 := below_alloc W (.cells #[.int .i64 k, .string (st t), .slice ko kl.length kc, .slice o is.length c] 25)
  have HI0 := hq (hA.grow _ _ _ hI hb0)
  have HW0 := hq (Whole.made W 25 #[.int .i64 k, .string (st t), .slice ko kl.length kc, .slice o is.length c])
  have HB0 := hq (Kp.of (C := C) hb0)
  have HNC : Hq (¬ C W.heap.size) := hq (fun hc => by have h1 := (hA.c0 _ hc).2; have h2 := (hA.below _ _ hI).2; omega)
  have HOK := hq hok
  have HA := hq hA
  clear hok ih hb0 hI hask hd hX hA hz hal hali
  go_enter Tryz.func59, Tryz.ntmps59
  go_upto_region 1 with fail
  generalize W.heap.size = g at HW0 HNC
  generalize (W.alloc (.cells #[.int .i64 k, .string (st t), .slice ko kl.length kc, .slice o is.length c] 25)) = V0 at *
  have hVg := hq (fun wr (hb : Kp C V0 wr) => four_cells (hb.whole HW0.o HNC.o))
  obtain ⟨c0, c1, c2, c3⟩ := hVg.o V0 (Kp.refl _ _)
  go_wp2_with fail
  refine (HASK.o V0 HI0.o).mono ?_
  rintro e w2 ⟨rfl, hI2, hk2⟩
  have HK2 := hq hk2
  clear HASK
  by_cases hok1 : ok pre (X, d) = true
  case neg =>
    have hf : ok pre (X, d) = false := by simpa using hok1
    have HV := hq (HP.o false _ w2 (by rw [HG.o, if_neg hok1]) hI2 (HB0.o.trans HK2.o))
    rw [hf]
    clear HP HG hok1 hf hk2 hI2 HIH
    go_wp2_with fail
    exact HV.o
  case pos =>
    have HG1 := hq (HG.o.trans (if_pos hok1))
    rw [hok1]
    obtain ⟨d0, d1, d2, d3⟩ := hVg.o w2 hk2
    clear HG hok1 c0 c1 c2 c3
    go_wp2_with fail
    clear d0 d1 d2 d3
    have HI2 := hq hI2
    clear hk2 hI2
    go_loopw [16] (fun i wr => ∃ (j : Nat) (q : List (Vl × Nat)), j ≤ is.length ∧ i = .int .i64 (j : Int) ∧ Hq (goV ok (pre ++ [(X, d)]) (Vl.visitsL (d + 1) ((is.take j).map Vt.m)) = (true, q)) ∧ Hq (I q wr) ∧ Hq (Kp C V0 wr)) (fun i _ => is.length - (intOf i).toNat)
    case atStart => exact ⟨0, pre ++ [(X, d)], Nat.zero_le _, rfl, hq rfl, HI2, HK2⟩
    case round =>
      obtain ⟨j, q, hj, rfl, hp, hI3, hk3⟩ := hrel
      obtain ⟨c0, c1, c2, c3⟩ := hVg.o wr hk3.o
      by_cases h : j < is.length
      · have hz : (j : Int) < (is.length : Int) := by omega
        have hbel := (HA.o.below _ _ hI3.o).1
        obtain ⟨b, f, ho, i0, i1, i2, i3⟩ := (HOK.o.grow hbel).at_ j h
        have HC := hq (HIH.o is[j] (List.getElem_mem h) q wr (HOK.o.item j h) hI3.o (by
          have h1 := goV_yes ok _ _ (show (goV ok (pre ++ [(X, d)]) (Vl.visitsL (d + 1) ((is.take j).map Vt.m))).1 = true by rw [hp.o])
          rw [hp.o] at h1
          have h2 := congrArg List.length h1
          have h3 := Vl.visitsL_length (l := (is.take j).map Vt.m) (d := d + 1) (fun x _ => x.visits_length _)
          have h4 := sizes_take h
          have h5 := sizes_part is (j + 1)
          have h6 := HZ.o
          rw [List.length_append, h3, List.length_append] at h2
          simp only [List.length_singleton] at h2
          omega))
        have HT : Hq (Vl.visitsL (d + 1) ((is.take (j + 1)).map Vt.m) = Vl.visitsL (d + 1) ((is.take j).map Vt.m) ++ is[j].m.visits (d + 1)) := hq (by
          rw [List.take_succ_eq_append_getElem h, List.map_append, visitsL_append]; simp [Vl.visitsL])
        have HR : Hq (Vl.visitsL (d + 1) (is.map Vt.m) = Vl.visitsL (d + 1) ((is.take (j + 1)).map Vt.m) ++ Vl.visitsL (d + 1) ((is.drop (j + 1)).map Vt.m)) := hq (by
          rw [← visitsL_append, ← List.map_append, List.take_append_drop])
        have HN : Hq (goV ok (pre ++ [(X, d)]) (Vl.visitsL (d + 1) ((is.take (j + 1)).map Vt.m)) = goV ok q (is[j].m.visits (d + 1))) := hq (by
          rw [HT.o, goV_append, hp.o]; rfl)
        have HF : Hq ((goV ok q (is[j].m.visits (d + 1))).1 = false → GV = goV ok q (is[j].m.visits (d + 1))) := hq (fun h1 => by
          rw [HG1.o, HR.o, goV_append, HN.o, if_neg (by rw [h1]; simp)])
        clear HIH HT HR hp hI3 hbel
        generalize is[j] = x at *
        generalize hGJ : goV ok q (x.m.visits (d + 1)) = GJ at *
        obtain ⟨gb, gq⟩ := GJ
        clear hGJ
        simp only at HC HF
        have hd1 : ((d + 1 : Nat) : Int) = (d : Int) + 1 := by omega
        rw [hd1] at HC
        clear hd1
        subst ho
        go_wp2_with fail
        refine HC.o.mono ?_
        rintro e w3 ⟨rfl, hI4, hk4⟩
        have HK4 := hq (hk3.o.trans hk4)
        have HI4 := hq hI4
        clear hI4 hk4 hk3 HC c0 c1 c2 c3 i0 i1 i2 i3
        cases gb with
        | true =>
          clear HF
          go_wp2_with fail
          go_roundw
          case rel => exact ⟨j + 1, gq, h, int_eq (by omega), HN, HI4, HK4⟩
          case measure => simp [intOf]; omega
        | false =>
          have HV := hq (HP.o false gq w3 (HF.o rfl) HI4.o (HB0.o.trans HK4.o))
          clear HF HP HN HI4
          go_wp2_with fail
          exact HV.o
      · have hz : ¬ (j : Int) < (is.length : Int) := by omega
        have HV := hq (HP.o true q wr (by
          have h1 := hp.o
          rw [List.take_of_length_le (by omega)] at h1
          rw [HG1.o, h1]) hI3.o (HB0.o.trans hk3.o))
        clear HP HIH hp hI3
        go_wp2_with fail
        exact HV.o)
theorem one_cell {w : World} {g : Nat} {t : TypeId} {a : Value} (h : Whole w g t #[a]) : w.cell? ⟨g, 0, none⟩ = some a := h.at_ 0
def CntI (w0 : World) (g : Nat) (pre : List (Vl × Nat)) (W : World) : Prop := Below w0.heap.size w0 W ∧ Whole W g 3 #[.int .i64 (pre.length : Int)]
theorem CntI.step {w0 W V0 : World} {g : Nat} {pre : List (Vl × Nat)} (h : CntI w0 g pre W) (hg0 : w0.heap.size ≤ g) (hb : Below W.heap.size W V0) (y : Vl × Nat) {m : Int} (hm : m = (pre.length : Int) + 1) : CntI w0 g (pre ++ [y]) (V0.setCell ⟨g, 0, none⟩ (.int .i64 m)) ∧ Kp (fun k => k = g) W (V0.setCell ⟨g, 0, none⟩ (.int .i64 m)) := by
  have hk : Kp (fun k => k = g) W (V0.setCell ⟨g, 0, none⟩ (.int .i64 m)) := (Kp.of hb).trans (Kp.set V0 _ _ rfl)
  refine ⟨⟨hk.below (fun k hk => by subst hk; exact hg0) h.1 h.1.size, ?_⟩, hk⟩
  have h1 := (h.2.grow hb).put 0 (.int .i64 m)
  have e : (#[Value.int .i64 (pre.length : Int)]).setIfInBounds 0 (.int .i64 m) = #[.int .i64 ((pre ++ [y]).length : Int)] := by
    rw [List.length_append, List.length_singleton, hm]; rfl
  rw [e] at h1
  exact h1
structure DepI (w0 : World) (g h : Nat) (pre : List (Vl × Nat)) (W : World) : Prop where
  bl : Below w0.heap.size w0 W
  cn : Whole W g 3 #[.int .i64 (pre.length : Int)]
  dp : Whole W h 3 #[.int .i64 (deepest pre : Int)]
theorem DepI.step {w0 W V0 : World} {g h : Nat} {pre : List (Vl × Nat)} (hI : DepI w0 g h pre W) (hg0 : w0.heap.size ≤ g) (hgh : g < h) (hb : Below W.heap.size W V0) (y : Vl × Nat) {m q : Int} (hm : m = (pre.length : Int) + 1) (hq : q = max (deepest pre : Int) (y.2 : Int)) :
    DepI w0 g h (pre ++ [y]) ((V0.setCell ⟨g, 0, none⟩ (.int .i64 m)).setCell ⟨h, 0, none⟩ (.int .i64 q)) ∧ Kp (fun k => k = g ∨ k = h) W ((V0.setCell ⟨g, 0, none⟩ (.int .i64 m)).setCell ⟨h, 0, none⟩ (.int .i64 q)) := by
  have hk : Kp (fun k => k = g ∨ k = h) W ((V0.setCell ⟨g, 0, none⟩ (.int .i64 m)).setCell ⟨h, 0, none⟩ (.int .i64 q)) := ((Kp.of hb).trans (Kp.set V0 _ _ (.inl rfl))).trans (Kp.set _ _ _ (.inr rfl))
  refine ⟨⟨hk.below (fun k hk => by rcases hk with rfl | rfl <;> omega) hI.bl hI.bl.size, ?_, ?_⟩, hk⟩
  · have h1 := ((hI.cn.grow hb).put 0 (.int .i64 m)).far (p := ⟨h, 0, none⟩) (show g ≠ h by omega) (.int .i64 q)
    have e : (#[Value.int .i64 (pre.length : Int)]).setIfInBounds 0 (.int .i64 m) = #[.int .i64 ((pre ++ [y]).length : Int)] := by
      rw [List.length_append, List.length_singleton, hm]; rfl
    rw [e] at h1
    exact h1
  · have h1 := ((hI.dp.grow hb).far (p := ⟨g, 0, none⟩) (show h ≠ g by omega) (.int .i64 m)).put 0 (.int .i64 q)
    have e : (#[Value.int .i64 (deepest pre : Int)]).setIfInBounds 0 (.int .i64 q) = #[.int .i64 (deepest (pre ++ [y]) : Int)] := by
      have h2 : deepest (pre ++ [y]) = max (deepest pre) y.2 := by rw [deepest_append, deepest_cons]; simp [deepest]
      rw [h2, hq]
      have h3 : ((max (deepest pre) y.2 : Nat) : Int) = max (deepest pre : Int) (y.2 : Int) := by omega
      rw [h3]; rfl
    rw [e] at h1
    exact h1
theorem info_partsV {t : TypeId} {z : Value} {s b : Nat} (h : (Tryz.prog.info? t).map (fun i => (i.zero, i.size, i.bytes)) = some (some z, s, b)) : ∃ i, Tryz.prog.info? t = some i ∧ i.zero = some z ∧ i.size = s ∧ i.bytes = b := by
  cases hi : Tryz.prog.info? t with
  | none => rw [hi] at h; cases h
  | some i =>
    rw [hi] at h
    simp only [Option.map_some, Option.some.injEq, Prod.mk.injEq] at h
    exact ⟨i, rfl, h.1, h.2.1, h.2.2⟩
theorem infoIv : (Tryz.prog.info? 3).map (fun i => (i.zero, i.size, i.bytes)) = some (some (.int .i64 0), 1, 8) := by kernel_rfl
theorem infoSv : (Tryz.prog.info? 9).map (fun i => (i.zero, i.size, i.bytes)) = some (some (.string ⟨#[]⟩), 1, 16) := by kernel_rfl
theorem infoVv : (Tryz.prog.info? 25).map (fun i => (i.zero, i.size, i.bytes)) = some (some (.agg #[.int .i64 0, .string ⟨#[]⟩, .slice none 0 0, .slice none 0 0]), 4, 72) := by kernel_rfl
theorem made_mapV (z : Value) (n : Nat) : madeCells #[z] n = ((List.range n).map fun _ => z).toArray := by
  rw [← Array.toList_inj, toList_madeCells_one]
  simp [List.map_const']
theorem mk_intsV (n : Nat) (hn : n ≤ 1000000) (W : World) : (Instr.makeSlice 60 (.int .i64 (n : Int)) (.int .i64 (n : Int))).run Tryz.prog W = .ok (.slice (some ⟨W.heap.size, 0, none⟩) n n) (W.alloc (.cells ((List.range n).map fun _ => Value.int .i64 0).toArray 3)) := by
  obtain ⟨i0, hi, hz0, hz1, hz2⟩ := info_partsV infoIv
  have h := run_make W 60 3 i0 (.int .i64 0) Tryz.underlying60 hi hz0 .i64 .i64 (n : Int) (n : Int) (by omega) (by omega) (by rw [hz2]; omega) (by omega)
  rw [hz1, Nat.mul_one, Int.toNat_natCast] at h
  rw [h, ← made_mapV]
  rfl
theorem range_setV {α : Type} (n k : Nat) (f : Nat → α) (v : α) : ((List.range n).map f).toArray.setIfInBounds k v = ((List.range n).map fun j => if j = k then v else f j).toArray := by
  apply Array.ext
  · simp
  · intro i h1 h2
    simp at h1 h2
    by_cases hk : k = i
    · subst hk; simp
    · rw [Array.getElem_setIfInBounds_ne (by simpa using h1) hk]
      simp
      intro h
      exact absurd h.symm hk
def natC (l : List Nat) : List Value := l.map fun (i : Nat) => Value.int .i64 (i : Int)
def NatsPost (B : Nat) (l : List Nat) (w : World) (e : Ending) (w' : World) : Prop := ∃ v, e = .returned v ∧ w'.ownsRow B 3 1 v l.length (natC l) ∧ Below w.heap.size w w'
def rowN (n j : Nat) : Array Value := ((List.range n).map fun a => if a < j then Value.int .i64 (a : Int) else .int .i64 0).toArray
theorem rowN_at {n j a : Nat} (h : a < n) : (rowN n j)[a]? = some (if a < j then Value.int .i64 (a : Int) else .int .i64 0) := by unfold rowN; simp [h]
theorem rowN_set {n j : Nat} : (rowN n j).setIfInBounds j (.int .i64 (j : Int)) = rowN n (j + 1) := by
  unfold rowN
  rw [range_setV]
  congr 1
  refine List.map_congr_left (fun a _ => ?_)
  by_cases h : a = j
  · subst h; rw [if_pos rfl, if_pos (by omega)]
  · rw [if_neg h]
    by_cases h2 : a < j
    · rw [if_pos h2, if_pos (by omega)]
    · rw [if_neg h2, if_neg (by omega)]
theorem rowN_own {w : World} {g n : Nat} {T : TypeId} (h : Whole w g T (rowN n n)) {B : Nat} (hB : B ≤ g) (hn : n ≤ maxLen) : w.ownsRow B T 1 (.slice (some ⟨g, 0, none⟩) n n) n (natC (List.range n)) := by
  have e : rowN n n = (natC (List.range n)).toArray := by
    unfold rowN natC
    congr 1
    refine List.map_congr_left (fun a ha => ?_)
    rw [if_pos (List.mem_range.1 ha)]
  rw [e] at h
  refine ⟨by unfold natC; simp, .inr ⟨g, n, _, rfl, hB, h, Nat.le_refl _, hn, by unfold natC; simp, ?_⟩⟩
  exact List.take_of_length_le (by unfold natC; simp)
theorem below_put {B : Nat} {a w : World} (h : Below B a w) {g : Nat} (hg : B ≤ g) (i : Nat) (u : Value) : Below B a (w.setCell ⟨g, i, none⟩ u) := h.setCell (by simp only; exact hg) u
set_option maxHeartbeats 4000000 in
set_option maxRecDepth 1000000 in
theorem stand_any (x : Vt) (w : World) (hn : x.is.length ≤ 1000000) : Calls Tryz.prog 111 #[x.v] w (NatsPost w.heap.size (List.range x.is.length) w) := by
  have hb0 := below_alloc w (.cells #[.int .i64 x.k, .string (st x.t), x.ks.v, x.row] 25)
  have hw0 := Whole.made w 25 #[.int .i64 x.k, .string (st x.t), x.ks.v, x.row]
  have HP : Hq (∀ (v : Value) W', W'.ownsRow w.heap.size 3 1 v x.is.length (natC (List.range x.is.length)) → Below w.heap.size w W' → NatsPost w.heap.size (List.range x.is.length) w (.returned v) W') := hq (fun v W' h h2 => ⟨v, rfl, by rw [List.length_range]; exact h, h2⟩)
  generalize NatsPost w.heap.size (List.range x.is.length) w = PP at *
  unfold Vt.v Vt.row at *
  generalize x.is.length = n at *
  go_enter Tryz.func111, Tryz.ntmps111
  go_upto_region 1 with fail
  obtain ⟨c0, c1, c2, c3⟩ := four_cells hw0
  have HB0 := hq hb0
  have hsz := hb0.size
  clear hb0 hw0
  generalize (w.alloc (.cells #[.int .i64 x.k, .string (st x.t), x.ks.v, .slice x.o n x.c] 25)) = V0 at *
  have hmk := mk_intsV n hn
  go_upto_region 3 with fail
  have HW1 := hq (Whole.made V0 3 (rowN n 0))
  have HB1 := hq (HB0.o.trans ((below_alloc V0 (.cells (rowN n 0) 3)).mono hsz))
  have e0 : ((List.range n).map fun _ => Value.int .i64 0).toArray = rowN n 0 := by
    unfold rowN
    congr 1
  rw [e0]
  clear e0 hmk c0 c1 c2 c3 HB0
  generalize (V0.alloc (.cells (rowN n 0) 3)) = V1 at *
  generalize hg : V0.heap.size = g at *
  clear hg
  go_loopw [4, 11] (fun _ i wr => ∃ j : Nat, j ≤ n ∧ i = .int .i64 (j : Int) ∧ Hq (Whole wr g 3 (rowN n j)) ∧ Hq (Below w.heap.size w wr)) (fun _ i _ => n - (intOf i).toNat)
  case atStart => exact ⟨0, Nat.zero_le _, rfl, HW1, HB1⟩
  case round =>
    obtain ⟨j, hj, rfl, hW, hb⟩ := hrel
    by_cases h : j < n
    · have hz : (j : Int) < (n : Int) := by omega
      have hc := (hW.o.at_ j).trans (rowN_at h)
      have hf := hW.o.free j
      have HW2 : Hq (Whole (wr.setCell ⟨g, j, none⟩ (.int .i64 (j : Int))) g 3 (rowN n (j + 1))) := hq (by
        have h1 := hW.o.put j (.int .i64 (j : Int))
        rwa [rowN_set] at h1)
      have HB2 := hq (below_put hb.o hsz j (.int .i64 (j : Int)))
      clear hW hb
      go_wp2_with fail
      go_roundw
      case rel => exact ⟨j + 1, h, int_eq (by omega), HW2, HB2⟩
      case measure => simp [intOf]; omega
    · have hz : ¬ (j : Int) < (n : Int) := by omega
      have HV := hq (HP.o _ wr (rowN_own (by
        have := hW.o
        rwa [show j = n by omega] at this) hsz (by unfold maxLen; omega)) hb.o)
      clear HP hW
      go_wp2_with fail
      exact HV.o
structure RemI (B : Nat) (W : World) (gv gr gw : Nat) (cv : Array Value) (ov : Value) (od : List Nat) (k : Int) (t : Bs) (kr : SRow) (o : Option Addr) (c : Nat) (ys : List Vt) (w : World) : Prop where
  bl : Below W.heap.size W w
  sz : B ≤ w.heap.size
  hv : Whole w gv 25 cv
  hr : Whole w gr 25 #[.int .i64 0, .string ⟨#[]⟩, .slice none 0 0, .slice none 0 0]
  hw : Whole w gw 25 #[.int .i64 k, .string (st t), kr.v, .slice o ys.length c]
  od : w.ownsRow B 3 1 ov od.length (natC od)
  ks : w.ownsRow B 9 1 kr.v kr.l.length (strC kr.l)
  it : w.ownsRow B 25 4 (.slice o ys.length c) ys.length (vtC ys)
  ch : ∀ y ∈ ys, y.Own 25 9 B (fun g => kr.v.ownBlock ≠ some g ∧ (Value.slice o ys.length c).ownBlock ≠ some g) w
  l0 : W.heap.size ≤ gv ∧ gv < B
  l1 : W.heap.size ≤ gw ∧ gw < B
  l2 : W.heap.size ≤ gr ∧ gr < B
  ne : gv ≠ gw
  nr : gr ≠ gw
  nd : (ys.flatMap Vt.rows).Nodup
theorem Vt.Own.lt {tV tS : TypeId} {B : Nat} {S : Nat → Prop} {w : World} {x : Vt} (h : Vt.Own tV tS B S w x) : Vt.Own tV tS B (fun g => S g ∧ B ≤ g ∧ g < w.heap.size) w x := by
  induction h with
  | mk k t ks o c is hks hkb hrow hrb _ ih => exact .mk k t ks o c is hks (fun g hg => ⟨hkb g hg, hks.lt g hg⟩) hrow (fun g hg => ⟨hrb g hg, hrow.lt g hg⟩) ih
theorem row_base {w : World} {B B' e size n : Nat} {v : Value} {xs : List Value} (h : w.ownsRow B e size v n xs) (hb : B' ≤ B) : w.ownsRow B' e size v n xs := by
  refine ⟨h.1, ?_⟩
  rcases h.2 with h2 | ⟨g, cap, cur, h1, h2, h3⟩
  · exact .inl h2
  · exact .inr ⟨g, cap, cur, h1, Nat.le_trans hb h2, h3⟩
theorem Vt.Own.base {tV tS : TypeId} {B B' : Nat} {S : Nat → Prop} {w : World} {x : Vt} (h : Vt.Own tV tS B S w x) (hb : B' ≤ B) : Vt.Own tV tS B' S w x := by
  induction h with
  | mk k t ks o c is hks hkb hrow hrb _ ih => exact .mk k t ks o c is (row_base hks hb) hkb (row_base hrow hb) hrb ih
theorem row_setV {w : World} {B e size n : Nat} {v : Value} {xs : List Value} (h : w.ownsRow B e size v n xs) {g i : Nat} (hg : g < B) (u : Value) : (w.setCell ⟨g, i, none⟩ u).ownsRow B e size v n xs :=
  h.kept (row := some g) ⟨rfl, rfl, rfl, by simp [World.setCell], fun k _ hne => Below.heap_setCell w ⟨g, i, none⟩ u k (fun e => hne (by rw [e]))⟩ (by
    cases hv : v.ownBlock with
    | none => exact .inl rfl
    | some b => exact .inr (fun e => by have h1 := (h.lt b hv).1; have h2 := Option.some.inj e; omega))
theorem Vt.Own.set {tV tS : TypeId} {B : Nat} {S : Nat → Prop} {w : World} {x : Vt} (h : Vt.Own tV tS B S w x) {g i : Nat} (hg : g < B) (u : Value) : Vt.Own tV tS B S (w.setCell ⟨g, i, none⟩ u) x := by
  induction h with
  | mk k t ks o c is hks hkb hrow hrb _ ih => exact .mk k t ks o c is (row_setV hks hg u) hkb (row_setV hrow hg u) hrb ih
theorem ownT' {w : World} {B e n size : Nat} {v : Value} {xs : List Value} (h : w.ownsRow B e size v n xs) : ∀ g, v.ownBlock = some g → ∃ cur, w.heap[g]? = some (.cells cur e (0, 0)) := fun g hg => by
  rcases h.2 with ⟨rfl, _⟩ | ⟨g', cap', cur, rfl, hb, hg', _⟩
  · cases hg
  · have : g' = g := by simpa [Value.ownBlock] using hg
    subst this
    exact ⟨cur, hg'⟩
theorem own_apartV {w : World} {B e n size B' e' n' size' : Nat} {v v' : Value} {xs xs' : List Value} (h : w.ownsRow B e size v n xs) (h' : w.ownsRow B' e' size' v' n' xs') (hne : e ≠ e') : v.ownBlock = none ∨ v.ownBlock ≠ v'.ownBlock := by
  cases hv : v.ownBlock with
  | none => exact .inl rfl
  | some g =>
    refine .inr fun e2 => ?_
    obtain ⟨c, hc⟩ := ownT' h g hv
    obtain ⟨c', hc'⟩ := ownT' h' g e2.symm
    rw [hc] at hc'
    cases hc'
    exact hne rfl
theorem whole_grownV {w w' : World} {g : Nat} {t : TypeId} {cs : Array Value} {row : Option Nat} (h : Whole w g t cs) (hg : w.grownBy w' row) (hne : some g ≠ row) : Whole w' g t cs := (hg.block g h.lt hne).trans h
section
variable {B : Nat} {W w w' : World} {gv gr gw : Nat} {cv : Array Value} {ov : Value} {od : List Nat} {k : Int} {t : Bs} {kr : SRow} {o : Option Addr} {c : Nat} {ys : List Vt}
theorem RemI.grow (h : RemI B W gv gr gw cv ov od k t kr o c ys w) (hb : Below w.heap.size w w') : RemI B W gv gr gw cv ov od k t kr o c ys w' :=
  ⟨below_trans h.bl hb, Nat.le_trans h.sz hb.size, h.hv.grow hb, h.hr.grow hb, h.hw.grow hb, h.od.kept (grownBy_below hb none) (by cases ov.ownBlock <;> simp), h.ks.kept (grownBy_below hb none) (by cases kr.v.ownBlock <;> simp),
    h.it.kept (grownBy_below hb none) (by cases (Value.slice o ys.length c).ownBlock <;> simp), fun y hy => (h.ch y hy).grow hb, h.l0, h.l1, h.l2, h.ne, h.nr, h.nd⟩
theorem RemI.out (h : RemI B W gv gr gw cv ov od k t kr o c ys w) : (Vt.mk k t kr o c ys).Own 25 9 B (fun _ => True) w :=
  .mk k t kr o c ys h.ks (fun _ _ => trivial) h.it (fun _ _ => trivial) (fun _i hi => (h.ch _ (List.getElem_mem hi)).kind (fun _ _ => trivial))
theorem RemI.outN (h : RemI B W gv gr gw cv ov od k t kr o c ys w) : (Vt.mk k t kr o c ys).rows.Nodup := by
  rw [Vt.rows_mk]
  refine List.nodup_append.2 ⟨?_, h.nd, fun a ha b hb e => ?_⟩
  · cases (Value.slice o ys.length c).ownBlock <;> simp
  · subst e
    obtain ⟨y, hy, hb⟩ := List.mem_flatMap.1 hb
    exact ((h.ch y hy).rowsS a hb).2 (by simpa using ha)
theorem RemI.key (h : RemI B W gv gr gw cv ov od k t kr o c ys w) {x : Bs} {o' : Option Addr} {c' : Nat} (hown : w'.ownsRow B 9 1 (.slice o' (kr.l.length + 1) c') (kr.l.length + 1) (strC kr.l ++ [.string (st x)])) (hg : w.grownBy w' kr.v.ownBlock)
    (hat : (Value.slice o' (kr.l.length + 1) c').ownBlock = kr.v.ownBlock ∨ (Value.slice o' (kr.l.length + 1) c').ownBlock = some w.heap.size) :
    RemI B W gv gr gw cv ov od k t ⟨o', c', kr.l ++ [x]⟩ o c ys (w'.setCell ⟨gw, 2, none⟩ (.slice o' (kr.l.length + 1) c')) := by
  have hne : ∀ g, g < B → some g ≠ kr.v.ownBlock := fun g hgB e => by have := (h.ks.lt g e.symm).1; omega
  have hl : (kr.l ++ [x]).length = kr.l.length + 1 := by rw [List.length_append, List.length_singleton]
  have hkv : (SRow.mk o' c' (kr.l ++ [x])).v = .slice o' (kr.l.length + 1) c' := by unfold SRow.v; simp only; rw [hl]
  refine ⟨?_, ?_, (whole_grownV h.hv hg (hne gv h.l0.2)).far h.ne _, (whole_grownV h.hr hg (hne gr h.l2.2)).far h.nr _, ?_, row_setV (h.od.kept hg ?_) h.l1.2 _, ?_, row_setV (h.it.kept hg ?_) h.l1.2 _, fun y hy => ?_, h.l0, h.l1, h.l2, h.ne, h.nr, h.nd⟩
  · exact below_put (h.bl.grown hg h.bl.size (fun j ej => by have := (h.ks.lt j ej).1; have := h.l0; omega)) h.l1.1 _ _
  · rw [show (w'.setCell ⟨gw, 2, none⟩ (.slice o' (kr.l.length + 1) c')).heap.size = w'.heap.size by simp [World.setCell]]
    exact Nat.le_trans h.sz hg.size
  · have h1 := (whole_grownV h.hw hg (hne gw h.l1.2)).put 2 (.slice o' (kr.l.length + 1) c')
    rw [hkv]
    exact h1
  · exact own_apartV h.od h.ks (by decide)
  · rw [hkv, hl]
    have h1 := row_setV hown h.l1.2 (i := 2) (.slice o' (kr.l.length + 1) c')
    have e : strC (kr.l ++ [x]) = strC kr.l ++ [.string (st x)] := by unfold strC; rw [List.map_append]; rfl
    rw [e]
    exact h1
  · exact own_apartV h.it h.ks (by decide)
  · refine Vt.Own.set (((h.ch y hy).lt.kept hg (fun g e hs => hs.1.1 e)).kind (fun g hs => ?_)) h.l1.2 _
    refine ⟨fun e => ?_, hs.1.2⟩
    rw [hkv] at e
    rcases hat with hat | hat
    · rw [hat] at e; exact hs.1.1 e
    · rw [hat] at e; have := Option.some.inj e; omega
theorem RemI.item (h : RemI B W gv gr gw cv ov od k t kr o c ys w) {x : Vt} {o' : Option Addr} {c' : Nat} (hx : x.Own 25 9 B (fun g => kr.v.ownBlock ≠ some g ∧ (Value.slice o ys.length c).ownBlock ≠ some g) w) (hxn : x.rows.Nodup ∧ ∀ g ∈ ys.flatMap Vt.rows, g ∉ x.rows)
    (hown : w'.ownsRow B 25 4 (.slice o' (ys.length + 1) c') (ys.length + 1) (vtC ys ++ [.int .i64 x.k, .string (st x.t), x.ks.v, x.row])) (hg : w.grownBy w' (Value.slice o ys.length c).ownBlock)
    (hat : (Value.slice o' (ys.length + 1) c').ownBlock = (Value.slice o ys.length c).ownBlock ∨ (Value.slice o' (ys.length + 1) c').ownBlock = some w.heap.size) :
    RemI B W gv gr gw cv ov od k t kr o' c' (ys ++ [x]) (w'.setCell ⟨gw, 3, none⟩ (.slice o' (ys.length + 1) c')) := by
  have hne : ∀ g, g < B → some g ≠ (Value.slice o ys.length c).ownBlock := fun g hgB e => by have := (h.it.lt g e.symm).1; omega
  have hl : (ys ++ [x]).length = ys.length + 1 := by rw [List.length_append, List.length_singleton]
  refine ⟨?_, ?_, (whole_grownV h.hv hg (hne gv h.l0.2)).far h.ne _, (whole_grownV h.hr hg (hne gr h.l2.2)).far h.nr _, ?_, row_setV (h.od.kept hg ?_) h.l1.2 _, row_setV (h.ks.kept hg ?_) h.l1.2 _, ?_, fun y hy => ?_, h.l0, h.l1, h.l2, h.ne, h.nr, by rw [List.flatMap_append, List.flatMap_cons, List.flatMap_nil, List.append_nil]; exact List.nodup_append.2 ⟨h.nd, hxn.1, fun a ha b hb e => hxn.2 a ha (e ▸ hb)⟩⟩
  · exact below_put (h.bl.grown hg h.bl.size (fun j ej => by have := (h.it.lt j ej).1; have := h.l0; omega)) h.l1.1 _ _
  · rw [show (w'.setCell ⟨gw, 3, none⟩ (.slice o' (ys.length + 1) c')).heap.size = w'.heap.size by simp [World.setCell]]
    exact Nat.le_trans h.sz hg.size
  · have h1 := (whole_grownV h.hw hg (hne gw h.l1.2)).put 3 (.slice o' (ys.length + 1) c')
    rw [hl]
    exact h1
  · exact own_apartV h.od h.it (by decide)
  · exact own_apartV h.ks h.it (by decide)
  · rw [hl, vtC_snoc]
    exact row_setV hown h.l1.2 _
  · have key : ∀ y : Vt, y.Own 25 9 B (fun g => kr.v.ownBlock ≠ some g ∧ (Value.slice o ys.length c).ownBlock ≠ some g) w → y.Own 25 9 B (fun g => kr.v.ownBlock ≠ some g ∧ (Value.slice o' (ys ++ [x]).length c').ownBlock ≠ some g) (w'.setCell ⟨gw, 3, none⟩ (.slice o' (ys.length + 1) c')) := fun y hy => by
      refine Vt.Own.set ((hy.lt.kept hg (fun g e hs => hs.1.2 e)).kind (fun g hs => ⟨hs.1.1, fun e => ?_⟩)) h.l1.2 _
      rw [hl] at e
      rcases hat with hat | hat
      · rw [hat] at e; exact hs.1.2 e
      · rw [hat] at e; have := Option.some.inj e; omega
    rcases List.mem_append.1 hy with hy | hy
    · exact key y (h.ch y hy)
    · rw [List.mem_singleton.1 hy]; exact key x hx
end
theorem step_atV {ops : Array Oper} {o : Oper} {a : Act} {w : World} {K : Act → World → Prop} {Q : Exit → Act → World → Prop} {E : Prop} (hg : o.guard = none) (s x : Operand) (t : TypeId)
    (ho : o.op = .call { callee := .builtin .append, args := #[s, x], argTypes := #[t, t] })
    (base : Nat) (e : TypeId) (i : TypeInfo) (z : Value) (size bytes : Nat) (ht : Tryz.prog.underlying t = some (.slice e)) (hi : Tryz.prog.info? e = some i) (hz : i.zero = some z)
    (hsize : i.size = size) (hby : i.bytes = bytes) (hzs : z.cells.size = size) (hsz : 0 < size)
    (v : Value) (n : Nat) (xs : List Value) (hs : a.eval s = v) (hown : w.ownsRow base e size v n xs)
    (ad : Addr) (m c : Nat) (news : List Value) (hx : a.eval x = .slice (some ad) m c) (hl : news.length = m * size) (hnews : ∀ j u, news[j]? = some u → w.cell? (ad.add j) = some u) (h1 : ∀ u ∈ news, u.oneCell' = true)
    (h63 : n + m ≤ maxLen) (hbytes : (n + m) * bytes ≤ 140737488355328) (hbase : base ≤ w.heap.size)
    (h : ∀ v' w', w'.ownsRow base e size v' (n + m) (xs ++ news) → w.grownBy w' v.ownBlock → (v'.ownBlock = v.ownBlock ∨ v'.ownBlock = some w.heap.size) → K (a.put o.dst v') w') :
    if Region.wanted o (yielded ops a.tmps) = true then Oper.wp Tryz.prog o a w K Q else E := by
  rw [if_pos (by simp [Region.wanted, hg])]
  obtain ⟨v', w', hr, h2, h3, h4, h5⟩ := run_append_own_at (P := Tryz.prog) w base t o.type e i z size bytes ht hi hz hsize hby hzs hsz v n xs hown ad m c news hl hnews h1 h63 hbytes hbase
  unfold Oper.wp execOp
  simp only [ho, resolve, invoke, builtin, Sem.run_bind, Sem.run_pure, Result.andThen_ok, List.map_toArray, List.map_cons, List.map_nil, hs, hx, hr]
  exact h v' w' h2 h3 h5
theorem row_shapeV {w : World} {B e n size : Nat} {v : Value} {xs : List Value} (h : w.ownsRow B e size v n xs) : ∃ a c, v = .slice a n c := by
  rcases h.2 with ⟨rfl, rfl⟩ | ⟨g', cap', cur, rfl, _⟩
  · exact ⟨_, _, rfl⟩
  · exact ⟨_, _, rfl⟩
theorem row_shapeV1 {w : World} {B e n size : Nat} {v : Value} {xs : List Value} (h : w.ownsRow B e size v (n + 1) xs) : ∃ g c, v = .slice (some ⟨g, 0, none⟩) (n + 1) c := by
  rcases h.2 with ⟨_, h0⟩ | ⟨g', cap', cur, rfl, _⟩
  · omega
  · exact ⟨_, _, rfl⟩
def RemPost (r : Vl) (W : World) (e : Ending) (W' : World) : Prop := ∃ y : Vt, e = .returned y.v ∧ y.Own 25 9 W.heap.size (fun _ => True) W' ∧ y.m = r ∧ Below W.heap.size W W'
def RemPostN (r : Vl) (W : World) (e : Ending) (W' : World) : Prop := ∃ y : Vt, e = .returned y.v ∧ (y.Own 25 9 W.heap.size (fun _ => True) W' ∧ y.rows.Nodup) ∧ y.m = r ∧ Below W.heap.size W W'
theorem RemPostN.post {r : Vl} {W W' : World} {e : Ending} (h : RemPostN r W e W') : RemPost r W e W' := by
  obtain ⟨y, h1, h2, h3, h4⟩ := h
  exact ⟨y, h1, h2.1, h3, h4⟩
structure OrdOk (ord : Vl → List Nat) (G : Vl → Prop) : Prop where
  lt : ∀ k t ks is, G (.mk k t ks is) → ∀ i ∈ ord (.mk k t ks is), i < is.length
  keys : ∀ k t ks is, G (.mk k t ks is) → k = 6 → ks.length = is.length
  len : ∀ v, G v → (ord v).length ≤ 1000000
  items : ∀ k t ks is, G (.mk k t ks is) → ∀ x ∈ is, G x
theorem natC_at {l : List Nat} {j : Nat} (h : j < l.length) : (natC l)[j]? = some (.int .i64 (l[j] : Int)) := by unfold natC; simp [h]
theorem three_boxes (w : World) (T : TypeId) (A B C : Array Value) : Below w.heap.size w (((w.alloc (.cells A T)).alloc (.cells B T)).alloc (.cells C T)) ∧ Whole (((w.alloc (.cells A T)).alloc (.cells B T)).alloc (.cells C T)) w.heap.size T A ∧ Whole (((w.alloc (.cells A T)).alloc (.cells B T)).alloc (.cells C T)) (w.heap.size + 1) T B ∧ Whole (((w.alloc (.cells A T)).alloc (.cells B T)).alloc (.cells C T)) (w.heap.size + 1 + 1) T C := by
  obtain ⟨h0, h1, h2⟩ := two_boxes w T A B
  have h3 := Whole.made ((w.alloc (.cells A T)).alloc (.cells B T)) T C
  rw [World.size_alloc, World.size_alloc] at h3
  exact ⟨h0.alloc (by rw [World.size_alloc, World.size_alloc]; omega) _, h1.alloc _, h2.alloc _, h3⟩
set_option maxHeartbeats 8000000 in
set_option maxRecDepth 1000000 in
theorem remakeN_any {w0 : World} {F : Nat} {ord : Vl → List Nat} {G : Vl → Prop} (hG : OrdOk ord G) (hcf : ∀ (args : Array Value) (w : World), (callFunc F args).run Tryz.prog w = .ok (.enter F args) w)
    (hord : ∀ (x : Vt) (W : World), Below w0.heap.size w0 W → x.Ok W → G x.m → Calls Tryz.prog F #[x.v] W (NatsPost W.heap.size (ord x.m) W)) :
    ∀ (x : Vt) (W : World), Below w0.heap.size w0 W → x.Ok W → G x.m → Calls Tryz.prog 61 #[x.v, .func (.func F) #[] #[]] W (RemPostN (remV ord x.m) W) := Vt.ind (fun k t ks o c is ih W hbw hok hgood => by
  obtain ⟨ko, kc, kl⟩ := ks
  have hn := hok.hl
  have hc := hok.hc
  have hkl : kl.length ≤ kc := hok.hks.le
  have hkc : kc ≤ maxLen := hok.hks.cp
  unfold maxLen at hc hkc
  obtain ⟨hb0, hw0, hwR, hw1⟩ := three_boxes W 25 #[.int .i64 k, .string (st t), .slice ko kl.length kc, .slice o is.length c] #[.int .i64 0, .string ⟨#[]⟩, .slice none 0 0, .slice none 0 0] #[.int .i64 k, .string (st t), .slice none 0 0, .slice none 0 0]
  have HORD := hq (fun V (hb : Below W.heap.size W V) => hord _ V (hbw.trans (hb.mono hbw.size)) (hok.grow hb) hgood)
  rw [Vt.m_mk] at *
  rw [Vt.v_mk'] at *
  simp only at *
  have HLT := hq (hG.lt _ _ _ _ hgood)
  have HKY := hq (hG.keys _ _ _ _ hgood)
  have hln := hG.len _ hgood
  have HIH := hq (fun (x : Vt) (hx : x ∈ is) V (hb : Below W.heap.size W V) (h : x.Ok V) => ih x hx V (hbw.trans (hb.mono hbw.size)) h (hG.items _ _ _ _ hgood x.m (List.mem_map.2 ⟨x, hx, rfl⟩)))
  have HP : Hq (∀ (y : Vt) W', (y.Own 25 9 W.heap.size (fun _ => True) W' ∧ y.rows.Nodup) → y.m = .mk k t (if k = 6 then (ord (.mk k t kl (is.map Vt.m))).map (keyAt kl) else []) ((ord (.mk k t kl (is.map Vt.m))).map (fun i => (remL ord (is.map Vt.m)).getD i default)) → Below W.heap.size W W' → RemPostN (remV ord (.mk k t kl (is.map Vt.m))) W (.returned y.v) W') := hq (fun y W' h1 h2 h3 => ⟨y, rfl, h1, by rw [h2]; simp only [remV], h3⟩)
  generalize RemPostN (remV ord (.mk k t kl (is.map Vt.m))) W = PP at *
  generalize ord (.mk k t kl (is.map Vt.m)) = od at *
  have HOK := hq hok
  have HB0 := hq hb0
  have HW0 := hq hw0
  have HW1 := hq hw1
  have HWR := hq hwR
  clear hok hbw hgood ih hb0 hw0 hw1 hwR hord hG
  go_enter Tryz.func61, Tryz.ntmps61
  go_upto_region 2 with fail
  generalize (((W.alloc (.cells #[.int .i64 k, .string (st t), .slice ko kl.length kc, .slice o is.length c] 25)).alloc (.cells #[.int .i64 0, .string ⟨#[]⟩, .slice none 0 0, .slice none 0 0] 25)).alloc (.cells #[.int .i64 k, .string (st t), .slice none 0 0, .slice none 0 0] 25)) = V at *
  obtain ⟨c0, c1, c2, c3⟩ := four_cells HW0.o
  have hBV := HW1.o.lt
  go_wp2_with fail
  refine (HORD.o V HB0.o).mono ?_
  rintro e w2 ⟨ov, rfl, hov, hb2⟩
  obtain ⟨oa, oc, rfl⟩ := row_shapeV hov
  have HI := hq (⟨below_trans HB0.o hb2, hb2.size, HW0.o.grow hb2, HWR.o.grow hb2, HW1.o.grow hb2, hov, World.ownsRow_nil _ _ _ _, World.ownsRow_nil _ _ _ _, (fun y hy => by cases hy), ⟨Nat.le_refl _, by omega⟩, ⟨by omega, by omega⟩, ⟨by omega, by omega⟩, by omega, by omega, List.nodup_nil⟩ : RemI V.heap.size W W.heap.size (W.heap.size + 1) (W.heap.size + 1 + 1) #[.int .i64 k, .string (st t), .slice ko kl.length kc, .slice o is.length c] (.slice oa od.length oc) od k t ⟨none, 0, []⟩ none 0 [] w2)
  have HVW := hq (show W.heap.size + 1 + 1 < V.heap.size by omega)
  clear hov hb2 HORD HB0 HW0 HW1 HWR c0 c1 c2 c3 hBV
  go_wp2_with fail
  generalize hB : V.heap.size = B at *
  generalize hgv : W.heap.size = gv at *
  have HGV := hq hgv
  clear hB hgv
  go_loopw [7, 17] (fun _ i wr => ∃ (j : Nat) (kr : SRow) (p : Option Addr) (q : Nat) (ys : List Vt), j ≤ od.length ∧ i = .int .i64 (j : Int) ∧ Hq (RemI B W gv (gv + 1) (gv + 1 + 1) #[.int .i64 k, .string (st t), .slice ko kl.length kc, .slice o is.length c] (.slice oa od.length oc) od k t kr p q ys wr) ∧ Hq (kr.l = if k = 6 then (od.take j).map (keyAt kl) else []) ∧ Hq (ys.map Vt.m = (od.take j).map (fun i => (remL ord (is.map Vt.m)).getD i default))) (fun _ i _ => od.length - (intOf i).toNat)
  case atStart => exact ⟨0, ⟨none, 0, []⟩, none, 0, [], Nat.zero_le _, rfl, HI, hq (by simp), hq rfl⟩
  case round =>
    obtain ⟨j, kr, p, q, ys, hj, rfl, hI, hkr, hys⟩ := hrel
    by_cases h : j < od.length
    · have hz : (j : Int) < (od.length : Int) := by omega
      have hcap := own_cap hI.o.od
      obtain ⟨oa', ca', hoa⟩ := (show ∃ g c', Value.slice oa od.length oc = .slice (some ⟨g, 0, none⟩) od.length c' from by
        rcases hI.o.od.2 with ⟨_, h0⟩ | ⟨g', cap', cur, h1, _⟩
        · omega
        · exact ⟨_, _, h1⟩)
      injection hoa with hoa he1 he2
      clear he1 he2
      subst hoa
      have i0 : wr.cell? ⟨oa', j, none⟩ = some (.int .i64 (od[j] : Int)) := by
        have h1 := hI.o.od.cells (g := oa') rfl j _ (natC_at h)
        rwa [Addr.add_lit, Nat.zero_add] at h1
      have hil := HLT.o od[j] (List.getElem_mem h)
      rw [List.length_map] at hil
      have HTK : Hq (od.take (j + 1) = od.take j ++ [od[j]]) := hq (List.take_succ_eq_append_getElem h)
      generalize od[j] = i at *
      obtain ⟨c0, c1, c2, c3⟩ := four_cells hI.o.hv
      obtain ⟨d0, d1, d2, d3⟩ := four_cells hI.o.hw
      have HOKw := hq (HOK.o.grow (by have := hI.o.bl; exact this))
      go_upto_region 5 with fail
      go_cut [7, 17, 23] from 17 to 46 (fun a b v wx => a = .int .i64 (i : Int) ∧ b = .int .i64 (j : Int) ∧ v = .bool (k == 6) ∧ wr = wx)
      case first =>
        go_wp2_with fail
        go_meet
        exact ⟨rfl, rfl, rfl, rfl⟩
      case rest =>
        obtain ⟨rfl, rfl, rfl, rfl⟩ := hcut
        apply_assumption
        go_cut [7, 17] from 17 to 46 (fun a b wx => a = .int .i64 (i : Int) ∧ b = .int .i64 (j : Int) ∧ ∃ kr' : SRow, Hq (RemI B W gv (gv + 1) (gv + 1 + 1) #[.int .i64 k, .string (st t), .slice ko kl.length kc, .slice o is.length c] (.slice (some ⟨oa', 0, none⟩) od.length oc) od k t kr' p q ys wx) ∧ Hq (kr'.l = if k = 6 then (od.take (j + 1)).map (keyAt kl) else []))
        case first =>
          by_cases h6 : k = 6
          · have e6 : (k == 6) = true := beq_iff_eq.2 h6
            have hkl6 := HKY.o h6
            rw [List.length_map] at hkl6
            have hik : i < kl.length := by omega
            have hikz : (i : Int) < (kl.length : Int) := by omega
            obtain ⟨b, f, hko, k0⟩ := HOKw.o.hks.rd i hik
            simp only at hko k0
            have hkx := HOKw.o.hkt kl[i] (List.getElem_mem hik)
            have HKX := hq (keyAt_lt hik)
            have H6 := hq h6
            clear h6 hkl6
            have hkrl : kr.l.length ≤ 1000000 := by rw [hkr.o, if_pos H6.o, List.length_map, List.length_take]; omega
            have HKS := hq hI.o.ks
            have hszB := hI.o.sz
            have HWA := hq (fun (T : TypeId) (cs : Array Value) (w' : World) (hg : (wr.alloc (.cells cs T)).grownBy w' kr.v.ownBlock) => whole_grownV (hI.o.hw.alloc (.cells cs T)) hg (fun e => by have h1 := (hI.o.ks.lt _ e.symm).1; have h2 := hI.o.l1.2; omega))
            generalize kl[i] = kx at *
            subst hko
            have d2a := (hI.o.hw.alloc (.cells #[.string (st kx)] 9)).at_ 2
            change World.cell? _ _ = some kr.v at d2a
            unfold SRow.v at d2 d2a HKS
            obtain ⟨i1, hi1, hy0, hy1, hy2⟩ := info_partsV infoSv
            rw [e6]
            go_wp2_with fail
            go_region_law (refine step_atV rfl (.tmp 25) (.tmp 31) 22 rfl B 9 i1 (.string ⟨#[]⟩) 1 16 Tryz.underlying22 hi1 hy0 hy1 hy2 rfl (by decide) (.slice kr.o kr.l.length kr.cap) kr.l.length (strC kr.l) (by simp [Act.eval]) (HKS.o.alloc (.cells #[.string (st kx)] 9)) ⟨wr.heap.size, 0, none⟩ 1 1 [.string (st kx)] (by simp [Act.eval]) rfl (cells_of_new wr [.string (st kx)] _) (by simp [Value.oneCell']) (by unfold maxLen; omega) (by omega) (by show B ≤ (wr.alloc _).heap.size; rw [World.size_alloc]; omega) ?_; intro v' w6 hown6 hgrow6 hat6; obtain ⟨g6, c6, rfl⟩ := row_shapeV1 hown6; have hg6 : (wr.alloc (.cells #[.string (st kx)] 9)).grownBy w6 (Value.slice kr.o kr.l.length kr.cap).ownBlock := ⟨hgrow6.os, hgrow6.tape, hgrow6.output, hgrow6.size, hgrow6.block⟩; have hw6 := HWA.o _ _ w6 hg6; have e6a := hw6.at_ 2; have e6b := hw6.free 2)
            all_goals
              have hI6 := (hI.o.grow (below_alloc wr (.cells #[.string (st kx)] 9))).key (x := kx) hown6 hg6 hat6
              go_wp2_with fail
              go_meet
              exact ⟨rfl, rfl, _, hq hI6, hq (by
                simp only
                rw [hkr.o, if_pos H6.o, if_pos H6.o, HTK.o, List.map_append, List.map_cons, List.map_nil, HKX.o])⟩
          · have e6 : (k == 6) = false := beq_eq_false_iff_ne.2 h6
            rw [e6]
            go_wp2_with fail
            go_meet
            exact ⟨rfl, rfl, kr, hI, hq (by rw [hkr.o, if_neg h6, if_neg h6])⟩
        case rest =>
          obtain ⟨rfl, rfl, kr2, hI2, hkr2⟩ := hcut
          clear c0 c1 c2 c3 d0 d1 d2 d3 i0 hI hkr HKY
          apply_assumption
          have hbw : Below W.heap.size W wc := hI2.o.bl
          obtain ⟨b, f, ho, hia⟩ := (HOK.o.grow hbw).at_ i hil
          have HC := hq (fun V (hb : Below wc.heap.size wc V) => HIH.o is[i] (List.getElem_mem hil) V (by
            have h1 := below_trans hbw hb
            rw [HGV.o] at h1
            exact h1) (((HOK.o.grow hbw).item i hil).grow hb))
          have HIT : Hq ((remL ord (is.map Vt.m)).getD i default = remV ord is[i].m) := hq (by simp [remL_map, hil])
          have HYL : Hq (ys.length = j) := hq (by
            have h1 := congrArg List.length hys.o
            rw [List.length_map, List.length_map, List.length_take] at h1
            omega)
          have hyl : ys.length ≤ 1000000 := by have := HYL.o; omega
          have hszB := hI2.o.sz
          obtain ⟨c0, c1, c2, c3⟩ := four_cells hI2.o.hv
          obtain ⟨d0, d1, d2, d3⟩ := four_cells hI2.o.hw
          obtain ⟨a0, a1, a2, a3⟩ := hia
          have hiz : (i : Int) < (is.length : Int) := by omega
          have HOW := hq (show ∀ (V : World) (y : Vt), Below wc.heap.size wc V → y.Own 25 9 wc.heap.size (fun _ => True) V → y.Own 25 9 B (fun g => kr2.v.ownBlock ≠ some g ∧ (Value.slice p ys.length q).ownBlock ≠ some g) V from fun V y hb hy =>
            (hy.lt.base hszB).kind (fun g hg => ⟨fun e => by have h1 := (hI2.o.ks.lt g e).2; omega, fun e => by have h1 := (hI2.o.it.lt g e).2; omega⟩))
          have HYR := hq (fun g (hg : g ∈ ys.flatMap Vt.rows) => (show g < wc.drew.heap.size from by
            obtain ⟨y, hy, hg⟩ := List.mem_flatMap.1 hg
            exact ((hI2.o.ch y hy).lt.rowsS g hg).2.2))
          obtain ⟨i1, hi1, hy0, hy1, hy2⟩ := info_partsV infoVv
          generalize is[i] = x at *
          subst ho
          go_wp2_with fail
          go_region_law (first
            | (refine step_atV rfl (.tmp 35) (.tmp 43) 23 rfl B 25 i1 (.agg #[.int .i64 0, .string ⟨#[]⟩, .slice none 0 0, .slice none 0 0]) 4 72 Tryz.underlying23 hi1 hy0 hy1 hy2 rfl (by decide) (.slice p ys.length q) ys.length (vtC ys) (by simp [Act.eval]) (HI9.o.it.alloc (.cells #[.int .i64 yk, .string (st yt), .slice yko ykl.length ykc, .slice yo yis.length yc] 25)) ⟨w9.heap.size, 0, none⟩ 1 1 [.int .i64 yk, .string (st yt), .slice yko ykl.length ykc, .slice yo yis.length yc] (by simp [Act.eval]) rfl (cells_of_new w9 [.int .i64 yk, .string (st yt), .slice yko ykl.length ykc, .slice yo yis.length yc] _) (by simp [Value.oneCell']) (by unfold maxLen; omega) (by omega) (by have h1 := HI9.o.sz; show B ≤ (w9.alloc _).heap.size; rw [World.size_alloc]; omega) ?_
               intro v' w6 hown6 hgrow6 hat6
               obtain ⟨g6, c6, rfl⟩ := row_shapeV1 hown6
               have hg6 : (w9.alloc (.cells #[.int .i64 yk, .string (st yt), .slice yko ykl.length ykc, .slice yo yis.length yc] 25)).grownBy w6 (Value.slice p ys.length q).ownBlock := ⟨hgrow6.os, hgrow6.tape, hgrow6.output, hgrow6.size, hgrow6.block⟩
               have hw6 := whole_grownV (HI9.o.hw.alloc (.cells #[.int .i64 yk, .string (st yt), .slice yko ykl.length ykc, .slice yo yis.length yc] 25)) hg6 (fun e => by have h1 := (HI9.o.it.lt _ e.symm).1; have h2 := HI9.o.l1.2; omega)
               have e6a := hw6.at_ 3
               have e6b := hw6.free 3)
            | (go_simp
               go_at_call 61
               refine (HC.o wc.drew (Below.refl _ _).drew).mono ?_
               rintro e9 w9 ⟨y, rfl, ⟨hyo, hyn⟩, hym, hb9⟩
               have HYN := hq (And.intro hyn (fun g (hg : g ∈ ys.flatMap Vt.rows) (hg2 : g ∈ y.rows) => Nat.lt_irrefl _ (Nat.lt_of_lt_of_le (HYR.o g hg) (hyo.lt.rowsS g hg2).2.1)))
               clear hyn
               obtain ⟨yk, yt, ⟨yko, ykc, ykl⟩, yo, yc, yis⟩ := y
               have HB9 := hq (show Below wc.heap.size wc w9 from below_trans (Below.refl _ _).drew hb9)
               have HI9 := hq (hI2.o.grow HB9.o)
               have HYO := hq hyo
               have HYM := hq hym
               obtain ⟨q0, q1, q2, q3⟩ := four_cells HI9.o.hw
               have q3a := (HI9.o.hw.alloc (.cells #[.int .i64 yk, .string (st yt), .slice yko ykl.length ykc, .slice yo yis.length yc] 25)).at_ 3
               clear hyo hym
               rw [Vt.v_mk']))
          all_goals
            have hI6 := (HI9.o.grow (below_alloc w9 (.cells #[.int .i64 yk, .string (st yt), .slice yko ykl.length ykc, .slice yo yis.length yc] 25))).item (x := Vt.mk yk yt ⟨yko, ykc, ykl⟩ yo yc yis) ((HOW.o w9 _ HB9.o HYO.o).grow (below_alloc w9 _)) HYN.o hown6 hg6 hat6
            have HI6 := hq hI6
            have HYS := hq (show (ys ++ [Vt.mk yk yt ⟨yko, ykc, ykl⟩ yo yc yis]).map Vt.m = (od.take (j + 1)).map (fun i => (remL ord (is.map Vt.m)).getD i default) by
              rw [HTK.o, List.map_append, List.map_append, hys.o, List.map_cons, List.map_nil, List.map_cons, List.map_nil, HYM.o, HIT.o])
            clear hI6 hown6 hgrow6 hat6 hg6 hw6 e6a e6b q0 q1 q2 q3 q3a HI9 HYO HYM HYN HYR HB9 HOW HC HIH hys hI2 a0 a1 a2 a3 c0 c1 c2 c3 d0 d1 d2 d3
            go_simp
            generalize w6.setCell ⟨gv + 1 + 1, 3, none⟩ (.slice (some ⟨g6, 0, none⟩) (ys.length + 1) c6) = W7 at *
            go_wp2_with fail
            go_roundw
            case rel => exact ⟨j + 1, kr2, some ⟨g6, 0, none⟩, c6, ys ++ [Vt.mk yk yt ⟨yko, ykc, ykl⟩ yo yc yis], h, int_eq (by omega), HI6, hkr2, HYS⟩
            case measure => simp [intOf]; omega
    · have hz : ¬ (j : Int) < (od.length : Int) := by omega
      have HKR : Hq (kr.l = if k = 6 then od.map (keyAt kl) else []) := hq (by rw [hkr.o, List.take_of_length_le (by omega)])
      have HYE : Hq (ys.map Vt.m = od.map (fun i => (remL ord (is.map Vt.m)).getD i default)) := hq (by rw [hys.o, List.take_of_length_le (by omega)])
      obtain ⟨d0, d1, d2, d3⟩ := four_cells hI.o.hw
      obtain ⟨r0, r1, r2, r3⟩ := four_cells hI.o.hr
      have f0 := hI.o.hr.free 0
      have f1 := hI.o.hr.free 1
      have f2 := hI.o.hr.free 2
      have f3 := hI.o.hr.free 3
      clear hkr hys HIH HLT HKY HOK
      obtain ⟨ro, rc, rl⟩ := kr
      unfold SRow.v at d2
      simp only at d2
      have HL2 := hq hI.o.l2
      have HL0 := hq hI.o.l0
      have HOUT := hq (fun a b c d => (((((hI.o.out.set (g := gv + 1) (i := 0) HL2.o.2 a).set (g := gv + 1) (i := 1) HL2.o.2 b).set (g := gv + 1) (i := 2) HL2.o.2 c).set (g := gv + 1) (i := 3) HL2.o.2 d).base (Nat.le_of_lt HL0.o.2)))
      have HOUN := hq hI.o.outN
      have HBL := hq (fun a b c d => below_put (below_put (below_put (below_put hI.o.bl HL2.o.1 0 a) HL2.o.1 1 b) HL2.o.1 2 c) HL2.o.1 3 d)
      have HM := hq (show (Vt.mk k t ⟨ro, rc, rl⟩ p q ys).m = .mk k t (if k = 6 then od.map (keyAt kl) else []) (od.map (fun i => (remL ord (is.map Vt.m)).getD i default)) from (Vt.m_mk k t ⟨ro, rc, rl⟩ p q ys).trans (by rw [HYE.o, ← HKR.o]))
      clear HKR HYE
      go_upto_region 9 with fail
      go_wp2_with fail
      refine bodyPost_ret (v := (Vt.mk k t ⟨ro, rc, rl⟩ p q ys).v) ?_ rfl ?_
      · simp [results, Tryz.results61, go_sem, r0, r1, r2, r3, Vt.v_mk']
      · refine HP.o _ _ ⟨HOUT.o _ _ _ _, HOUN.o⟩ HM.o ?_
        have h1 := HBL.o (.int .i64 k) (.string (st t)) (.slice ro rl.length rc) (.slice p ys.length q)
        rw [HGV.o] at h1
        exact h1)
theorem remake_any {w0 : World} {F : Nat} {ord : Vl → List Nat} {G : Vl → Prop} (hG : OrdOk ord G) (hcf : ∀ (args : Array Value) (w : World), (callFunc F args).run Tryz.prog w = .ok (.enter F args) w)
    (hord : ∀ (x : Vt) (W : World), Below w0.heap.size w0 W → x.Ok W → G x.m → Calls Tryz.prog F #[x.v] W (NatsPost W.heap.size (ord x.m) W)) (x : Vt) (W : World) (hb : Below w0.heap.size w0 W) (hx : x.Ok W) (hg : G x.m) :
    Calls Tryz.prog 61 #[x.v, .func (.func F) #[] #[]] W (RemPost (remV ord x.m) W) := (remakeN_any hG hcf hord x W hb hx hg).mono fun _ _ h => h.post
end Go.Proofs.YtnlkokgekjlmmaaGreatDoor
