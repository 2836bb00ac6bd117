/-
  WALKS: print.Compact, Canon, Pretty.
-/
import Derived.Test.YtnlkokgekjlmmaaGreatDoorPrM
namespace Go.Proofs.YtnlkokgekjlmmaaGreatDoor
open Go.RowKit
structure Pri (x : Vt) (w : World) : Prop where
  fine : Fine x w
  sht : x.m.All Sht
theorem Pri.grow {x : Vt} {w w' : World} (h : Pri x w) (hb : Below w.heap.size w w') : Pri x w' := ⟨h.fine.grow hb, h.sht⟩
theorem zeroL_all {p : Vl → Prop} (h : p zeroL) : zeroL.All p := .mk _ _ _ _ h (fun x hx => by cases hx)
def sortM (v : Vl) : Vl := if openM v = true then sortV v else zeroL
theorem sortM_pri {x y : Vt} {w w' : World} (hx : Pri x w) (ho : y.Own 25 9 w.heap.size (fun _ => True) w') (hm : y.m = sortM x.m) : Pri y w' := by
  by_cases h : openM x.m = true
  · have e : sortM x.m = sortV x.m := if_pos h
    rw [e] at hm
    refine ⟨⟨ho.ok (by rw [hm]; exact rng_sort hx.fine.ok.rng), by rw [hm]; exact lim_sort hx.fine.lim, by rw [hm, sort_size _ (open_good h).1]; exact hx.fine.sz⟩, by rw [hm]; exact sht_sort hx.sht⟩
  · have e : sortM x.m = zeroL := if_neg h
    rw [e] at hm
    refine ⟨⟨ho.ok (by rw [hm]; exact zeroL_all (by constructor <;> simp [zeroL, Vl.k, Vl.t, Vl.ks])), by rw [hm]; exact zeroL_all ⟨by simp [zeroL, Vl.t], by simp [zeroL, Vl.ks]⟩, by rw [hm]; simp [zeroL, Vl.size, Vl.sizes]⟩, by rw [hm]; exact zeroL_all ⟨by simp [zeroL, Vl.t], by simp [zeroL, Vl.ks]⟩⟩
def NewP (g : Nat) (l : Bs) (ls : Bool) (n : Int) (w : World) (e : Ending) (w' : World) : Prop := e = .returned (.tuple #[]) ∧ Prn w.heap.size g l ls n w' ∧ Below w.heap.size w w'
theorem new_value (x : Vt) (ls : Bool) (n lev : Nat) (w : World) (hE : Env w) (hx : Pri x w) (hn : n ≤ 8) (hv : lev ≤ 32) (hr : rightM x.m = true) :
    Calls Tryz.prog 50 #[.pointer (some ⟨w.heap.size, 0, none⟩), x.v, .int .i64 (lev : Int)] (w.alloc (.cells #[.pointer none, .slice none 0 0, .bool ls, .int .i64 (n : Int)] 82)) (NewP w.heap.size (prB ls n lev x.m) ls (n : Int) w) := by
  obtain ⟨hg, h1, h2, _⟩ := right_good hr
  have hb0 := below_alloc w (.cells #[.pointer none, .slice none 0 0, .bool ls, .int .i64 (n : Int)] 82)
  have hp : Prn w.heap.size w.heap.size [] ls (n : Int) (w.alloc (.cells #[.pointer none, .slice none 0 0, .bool ls, .int .i64 (n : Int)] 82)) := .inl ⟨Nat.le_refl _, .slice none 0 0, heap_alloc_new w _, World.ownsRow_nil _ _ _ _⟩
  refine (pvalue w.heap.size ls n (by omega) hE.tab x [] lev _ hx.fine.ok (good_prok hg hx.sht) hb0 hp (by omega) (by have := prB_fits hr hx.sht ls hn hv; simpa using this)).mono ?_
  rintro e w' ⟨rfl, h3⟩
  exact ⟨rfl, h3.1, hb0.trans h3.2.1⟩
set_option maxHeartbeats 8000000 in
set_option maxRecDepth 1000000 in
theorem pcompact (x : Vt) (w : World) (hE : Env w) (hx : Pri x w) : Calls Tryz.prog 16 #[x.v] w (TextP (compactM x.m) w) := by
  have HR := hq (fun W (h : Below w.heap.size w W) => vright_any x W (hE.grow h) (hx.fine.ok.grow h) hx.fine.lim (by have := hx.fine.sz; omega))
  have HV := hq (fun (hr : rightM x.m = true) W (h : Below w.heap.size w W) => new_value x false 0 0 W (hE.grow h) (hx.grow h) (by omega) (by omega) hr)
  have HN := hq (fun (hr : rightM x.m = true) => prB_ne false 0 0 hr)
  have HCM : Hq (compactM x.m = if rightM x.m = true then (prB false 0 0 x.m, 0) else ([], 1)) := hq rfl
  have HP : Hq (∀ (r : Bs × Int) W', compactM x.m = r → Below w.heap.size w W' → TextP (compactM x.m) w (.returned (.tuple #[.string (st r.1), .int .i64 r.2])) W') := hq (fun r W' h1 h2 => by rw [h1]; exact ⟨rfl, h2⟩)
  generalize TextP (compactM x.m) w = PP at *
  generalize compactM x.m = CM at *
  generalize prB false 0 0 x.m = PB at *
  clear hE hx
  obtain ⟨k, t, ⟨ko, kc, kl⟩, o, c, is⟩ := x
  rw [Vt.v_mk'] at *
  generalize (Vt.mk k t ⟨ko, kc, kl⟩ o c is).m = X at *
  have hb0 := below_alloc w (.cells #[.int .i64 k, .string (st t), .slice ko kl.length kc, .slice o is.length c] 25)
  have HB0 := hq hb0
  have HW0 := hq (Whole.made w 25 #[.int .i64 k, .string (st t), .slice ko kl.length kc, .slice o is.length c])
  clear hb0
  obtain ⟨c0, c1, c2, c3⟩ := four_cells HW0.o
  go_enter Tryz.func16, Tryz.ntmps16
  go_wp2_with fail
  generalize w.heap.size = g at c0 c1 c2 c3 HW0
  generalize (w.alloc (.cells #[.int .i64 k, .string (st t), .slice ko kl.length kc, .slice o is.length c] 25)) = V0 at *
  refine (HR.o V0 HB0.o).mono ?_
  rintro e w1 ⟨rfl, hb1⟩
  have HB1 := hq (below_trans HB0.o hb1)
  have HW1 := hq (HW0.o.grow hb1)
  obtain ⟨d0, d1, d2, d3⟩ := four_cells HW1.o
  clear HR hb1 c0 c1 c2 c3
  by_cases hr : rightM X = true
  case neg =>
    have hf : rightM X = false := by simpa using hr
    have HU := hq (HP.o ([], 1) w1 (by rw [HCM.o, if_neg hr]) HB1.o)
    rw [hf]
    clear HP HCM HV HN hr hf
    go_wp2_with fail
    first
      | exact HU.o
      | (go_ret
         exact HU.o)
  case pos =>
    have HE : Hq (CM = (PB, 0)) := hq (by rw [HCM.o, if_pos hr])
    have HC := hq (HV.o hr w1 HB1.o)
    have HNE := hq (HN.o hr)
    rw [hr]
    clear HV HN HCM hr
    have h00 : ((0 : Nat) : Int) = 0 := rfl
    rw [h00] at HC
    obtain ⟨e0, e1, e2, e3⟩ := four_cells (HW1.o.alloc (.cells #[.pointer none, .slice none 0 0, .bool false, .int .i64 0] 82))
    clear h00
    go_wp2_with fail
    refine HC.o.mono ?_
    rintro e w2 ⟨rfl, h2, hb2⟩
    have HS := hq (pString w1.heap.size w1.heap.size PB false 0 w2 h2 HNE.o)
    have HQ := hq (fun W' => HP.o (PB, 0) W' HE.o)
    have HB2 := hq hb2
    clear HC HNE h2 hb2 HP HE d0 d1 d2 d3 e0 e1 e2 e3 HW1 HW0
    go_wp2_with fail
    refine HS.o.mono ?_
    rintro e w3 ⟨rfl, h3⟩
    have HU := hq (HQ.o w3 (below_trans HB1.o (HB2.o.trans h3)))
    clear HS HQ HB2 h3
    go_wp2_with fail
    first
      | exact HU.o
      | (go_ret
         exact HU.o)
set_option maxHeartbeats 8000000 in
set_option maxRecDepth 1000000 in
theorem pcanon (x : Vt) (w : World) (hE : Env w) (hx : Pri x w) : Calls Tryz.prog 17 #[x.v] w (TextP (compactM (sortM x.m)) w) := by
  have HSO := hq (fun W (h : Below w.heap.size w W) => vSorted_any x W (hE.grow h) (hx.fine.grow h))
  have HCO := hq (fun (y : Vt) W W' (h : Below w.heap.size w W) (h2 : Below W.heap.size W W') (ho : y.Own 25 9 W.heap.size (fun _ => True) W') (hm : y.m = sortM x.m) => (by have := pcompact y W' (hE.grow (below_trans h h2)) (sortM_pri (hx.grow h) ho hm); rwa [hm] at this : Calls Tryz.prog 16 #[y.v] W' (TextP (compactM (sortM x.m)) W')))
  have HP : Hq (∀ (r : Bs × Int) W', compactM (sortM x.m) = r → Below w.heap.size w W' → TextP (compactM (sortM x.m)) w (.returned (.tuple #[.string (st r.1), .int .i64 r.2])) W') := hq (fun r W' h1 h2 => by rw [h1]; exact ⟨rfl, h2⟩)
  have e : ∀ v : Vl, (if openM v = true then sortV v else zeroL) = sortM v := fun _ => rfl
  rw [e] at HSO
  generalize TextP (compactM (sortM x.m)) w = PP at *
  generalize sortM x.m = SM at *
  clear hE hx e
  obtain ⟨k, t, ⟨ko, kc, kl⟩, o, c, is⟩ := x
  rw [Vt.v_mk'] at *
  have HB0 := hq (below_alloc w (.cells #[.int .i64 k, .string (st t), .slice ko kl.length kc, .slice o is.length c] 25))
  obtain ⟨c0, c1, c2, c3⟩ := four_cells (Whole.made w 25 #[.int .i64 k, .string (st t), .slice ko kl.length kc, .slice o is.length c])
  go_enter Tryz.func17, Tryz.ntmps17
  go_wp2_with fail
  generalize (w.alloc (.cells #[.int .i64 k, .string (st t), .slice ko kl.length kc, .slice o is.length c] 25)) = V0 at *
  refine (HSO.o V0 HB0.o).mono ?_
  rintro e w1 ⟨y, rfl, h1, h2, hb1⟩
  have HC := hq (HCO.o y V0 w1 HB0.o hb1 h1 h2)
  have HB1 := hq (below_trans HB0.o hb1)
  clear HSO HCO h1 h2 hb1 c0 c1 c2 c3
  generalize y.v = yv at *
  go_wp2_with fail
  refine HC.o.mono ?_
  rintro e w2 ⟨rfl, hb2⟩
  have HU := hq (HP.o _ w2 rfl (below_trans HB1.o hb2))
  clear HC HP hb2
  go_wp2_with fail
  first
    | exact HU.o
    | (go_ret
       exact HU.o)
set_option maxHeartbeats 8000000 in
set_option maxRecDepth 1000000 in
theorem ppretty (x : Vt) (i lv : Int) (w : World) (hE : Env w) (hx : Pri x w) : Calls Tryz.prog 18 #[x.v, .int .i64 i, .int .i64 lv] w (TextP (prettyM x.m i lv) w) := by
  have HR := hq (fun W (h : Below w.heap.size w W) => vright_any x W (hE.grow h) (hx.fine.ok.grow h) hx.fine.lim (by have := hx.fine.sz; omega))
  have HV := hq (fun (hr : rightM x.m = true) (n lev : Nat) (h8 : n ≤ 8) (h32 : lev ≤ 32) W (h : Below w.heap.size w W) => new_value x true n lev W (hE.grow h) (hx.grow h) h8 h32 hr)
  have HN := hq (fun (hr : rightM x.m = true) (n lev : Nat) => prB_ne true n lev hr)
  have HCM : Hq (prettyM x.m i lv = if rightM x.m = true ∧ 0 ≤ i ∧ i ≤ 8 ∧ 0 ≤ lv ∧ lv ≤ 32 then (prB true i.toNat lv.toNat x.m, 0) else ([], 1)) := hq rfl
  have HP : Hq (∀ (r : Bs × Int) W', prettyM x.m i lv = r → Below w.heap.size w W' → TextP (prettyM x.m i lv) w (.returned (.tuple #[.string (st r.1), .int .i64 r.2])) W') := hq (fun r W' h1 h2 => by rw [h1]; exact ⟨rfl, h2⟩)
  generalize TextP (prettyM x.m i lv) w = PP at *
  generalize prettyM x.m i lv = CM at *
  clear hE hx
  obtain ⟨k, t, ⟨ko, kc, kl⟩, o, c, is⟩ := x
  rw [Vt.v_mk'] at *
  generalize (Vt.mk k t ⟨ko, kc, kl⟩ o c is).m = X at *
  have hb0 := below_alloc w (.cells #[.int .i64 k, .string (st t), .slice ko kl.length kc, .slice o is.length c] 25)
  have HB0 := hq hb0
  have HW0 := hq (Whole.made w 25 #[.int .i64 k, .string (st t), .slice ko kl.length kc, .slice o is.length c])
  clear hb0
  obtain ⟨c0, c1, c2, c3⟩ := four_cells HW0.o
  go_enter Tryz.func18, Tryz.ntmps18
  go_wp2_with fail
  generalize w.heap.size = g at c0 c1 c2 c3 HW0
  generalize (w.alloc (.cells #[.int .i64 k, .string (st t), .slice ko kl.length kc, .slice o is.length c] 25)) = V0 at *
  refine (HR.o V0 HB0.o).mono ?_
  rintro e w1 ⟨rfl, hb1⟩
  have HB1 := hq (below_trans HB0.o hb1)
  have HW1 := hq (HW0.o.grow hb1)
  obtain ⟨d0, d1, d2, d3⟩ := four_cells HW1.o
  clear HR hb1 c0 c1 c2 c3
  by_cases hr : rightM X = true
  case neg =>
    have hf : rightM X = false := by simpa using hr
    have HU := hq (HP.o ([], 1) w1 (by rw [HCM.o, if_neg (fun h => hr h.1)]) HB1.o)
    rw [hf]
    clear HP HCM HV HN hr hf
    go_wp2_with fail
    first
      | exact HU.o
      | (go_ret
         exact HU.o)
  case pos =>
    by_cases hall : 0 ≤ i ∧ i ≤ 8 ∧ 0 ≤ lv ∧ lv ≤ 32
    case neg =>
      have HU := hq (HP.o ([], 1) w1 (by rw [HCM.o, if_neg (fun h => hall h.2)]) HB1.o)
      rw [hr]
      clear HP HCM HV HN hr
      have hcs : i < 0 ∨ (¬ i < 0 ∧ 8 < i) ∨ (¬ i < 0 ∧ ¬ 8 < i ∧ lv < 0) ∨ (¬ i < 0 ∧ ¬ 8 < i ∧ ¬ lv < 0 ∧ 32 < lv) := by omega
      clear hall
      rcases hcs with h1 | ⟨h1, h2⟩ | ⟨h1, h2, h3⟩ | ⟨h1, h2, h3, h4⟩
      all_goals
        go_wp2_with fail
        first
          | exact HU.o
          | (go_ret
             exact HU.o)
    case pos =>
      obtain ⟨h1, h2, h3, h4⟩ := hall
      obtain ⟨n, rfl⟩ := Int.eq_ofNat_of_zero_le h1
      obtain ⟨lev, rfl⟩ := Int.eq_ofNat_of_zero_le h3
      have HE : Hq (CM = (prB true n lev X, 0)) := hq (by rw [HCM.o, if_pos ⟨hr, h1, h2, h3, h4⟩]; simp)
      have HC := hq (HV.o hr n lev (by omega) (by omega) w1 HB1.o)
      have HNE := hq (HN.o hr n lev)
      rw [hr]
      clear HV HN HCM hr
      have g1 : ¬ (n : Int) < 0 := by omega
      have g2 : ¬ 8 < (n : Int) := by omega
      have g3 : ¬ (lev : Int) < 0 := by omega
      have g4 : ¬ 32 < (lev : Int) := by omega
      clear h1 h2 h3 h4
      generalize prB true n lev X = PB at *
      obtain ⟨e0, e1, e2, e3⟩ := four_cells (HW1.o.alloc (.cells #[.pointer none, .slice none 0 0, .bool true, .int .i64 (n : Int)] 82))
      go_wp2_with fail
      refine HC.o.mono ?_
      rintro e w2 ⟨rfl, h2, hb2⟩
      have HS := hq (pString w1.heap.size w1.heap.size PB true (n : Int) w2 h2 HNE.o)
      have HQ := hq (fun W' => HP.o (PB, 0) W' HE.o)
      have HB2 := hq hb2
      clear HC HNE h2 hb2 HP HE d0 d1 d2 d3 e0 e1 e2 e3 HW1 HW0
      go_wp2_with fail
      refine HS.o.mono ?_
      rintro e w3 ⟨rfl, h3⟩
      have HU := hq (HQ.o w3 (below_trans HB1.o (HB2.o.trans h3)))
      clear HS HQ HB2 h3
      go_wp2_with fail
      first
        | exact HU.o
        | (go_ret
           exact HU.o)
end Go.Proofs.YtnlkokgekjlmmaaGreatDoor
