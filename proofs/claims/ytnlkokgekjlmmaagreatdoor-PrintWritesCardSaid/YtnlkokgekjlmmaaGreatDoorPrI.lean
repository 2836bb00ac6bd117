/-
  WALKS: the document's text of a value; its Compact, Canon, Pretty.
-/
import Derived.Test.YtnlkokgekjlmmaaGreatDoorPrH
import Derived.Test.YtnlkokgekjlmmaaGreatDoorPrU
import Derived.Test.YtnlkokgekjlmmaaGreatDoorVrC
import Derived.Test.YtnlkokgekjlmmaaGreatDoorVrD
namespace Go.Proofs.YtnlkokgekjlmmaaGreatDoor
open Go.RowKit

set_option maxHeartbeats 16000000 in
set_option maxRecDepth 1000000 in
theorem rtleaf (ind lev k : Int) (t : Bs) (ko : Option Addr) (kc kn : Nat) (o : Option Addr) (c n : Nat) (w : World) (hk : k = 1 ∨ k = 2 ∨ k = 3 ∨ k = 4) (ht : t.length ≤ 1048576) :
    Calls Tryz.prog 53 #[.agg #[.int .i64 k, .string (st t), .slice ko kn kc, .slice o n c], .int .i64 ind, .int .i64 lev] w (StrP (if k = 1 then [110, 117, 108, 108] else if k = 4 then qtB t else t) w) := by
  have HQT := hq (fun W => rquote_any (st t) W (by rw [st_size]; omega))
  rw [show (quoteM (st t)).1 = qtB t from rfl] at HQT
  generalize (quoteM (st t)).2 = qe at *
  have HP0 : Hq (∀ (q : Bs) W', (if k = 1 then [110, 117, 108, 108] else if k = 4 then qtB t else t) = q → Below w.heap.size w W' → StrP (if k = 1 then [110, 117, 108, 108] else if k = 4 then qtB t else t) w (.returned (.string (st q))) W') := hq (fun q W' h1 h2 => by rw [h1]; exact ⟨rfl, h2⟩)
  generalize StrP (if k = 1 then [110, 117, 108, 108] else if k = 4 then qtB t else t) w = PP at *
  have hb0 := below_alloc w (.cells #[.int .i64 k, .string (st t), .slice ko kn kc, .slice o n c] 25)
  have HB0 := hq hb0
  obtain ⟨c0, c1, c2, c3⟩ := four_cells (Whole.made w 25 #[.int .i64 k, .string (st t), .slice ko kn kc, .slice o n c])
  clear hb0
  go_enter Tryz.func53, Tryz.ntmps53
  go_upto_region 1 with fail
  generalize (w.alloc (.cells #[.int .i64 k, .string (st t), .slice ko kn kc, .slice o n c] 25)) = V0 at *
  rcases hk with rfl | rfl | rfl | rfl
  · have HV := hq (HP0.o _ V0 (if_pos rfl) HB0.o)
    clear HP0
    go_wp2_with fail
    first
      | exact HV.o
      | (go_ret
         exact HV.o)
      | trace_state
  · have HV := hq (HP0.o _ V0 (by rw [if_neg (by decide), if_neg (by decide)]) HB0.o)
    clear HP0
    go_wp2_with fail
    first
      | exact HV.o
      | (go_ret
         exact HV.o)
      | trace_state
  · have HV := hq (HP0.o _ V0 (by rw [if_neg (by decide), if_neg (by decide)]) HB0.o)
    clear HP0
    go_wp2_with fail
    first
      | exact HV.o
      | (go_ret
         exact HV.o)
      | trace_state
  · have HV := hq (fun W' h => HP0.o _ W' (by rw [if_neg (by decide), if_pos rfl]) (below_trans HB0.o h))
    clear HP0
    go_wp2_with fail
    refine (HQT.o _).mono ?_
    rintro e v1 ⟨rfl, hv1⟩
    have HU := hq (HV.o v1 hv1)
    clear HV HQT hv1
    go_wp2_with fail
    first
      | exact HU.o
      | (go_ret
         exact HU.o)
      | trace_state

theorem item_len (ls : Bool) {n lev : Nat} (hn : n ≤ 8) {v : Vl} (hs : v.All Sht) (hd : lev + v.depth ≤ 1000) (hz : v.size ≤ 30000) : (prB ls n lev v).length ≤ 900000000 := by
  have := prB_len ls n hn v hs lev hd
  omega
theorem comma_le (ls : Bool) (n lev : Nat) (o c : UInt8) (its : List Bs) : (commaB (lnB ls n (lev + 1)) its).length ≤ (listB ls n lev o c its).length := by
  unfold listB
  simp only [List.length_cons, List.length_append]
  omega
theorem rtextG (ls : Bool) (ind : Int) (n : Nat) (hn : n ≤ 8) (hm : (ls = true ∧ ind = (n : Int)) ∨ (ls = false ∧ ind = -1)) : ∀ (x : Vt) (lev : Nat) (w : World), x.Ok w → Rgt x.m → x.m.All Sht → lev + x.m.depth ≤ 1000 → x.m.size ≤ 30000 → Calls Tryz.prog 53 #[x.v, .int .i64 ind, .int .i64 (lev : Int)] w (StrP (prB ls n lev x.m) w) := Vt.ind (fun k t ks o c is ih lev w hok hr hs hd hz => by
  obtain ⟨ko, kc, kl⟩ := ks
  have hok' := hok
  rw [Vt.m_mk] at *
  rw [Vt.v_mk']
  simp only at *
  obtain ⟨ht, hkx⟩ := hs.here
  simp only [Vl.t, Vl.ks] at ht hkx
  have hsi := hs.items
  have hri := hr.item
  have hbd := item_len ls hn hs hd hz
  have hdd := hd
  have hzz := hz
  simp only [Vl.depth] at hd
  simp only [Vl.size] at hz
  have hit : ∀ j (hj : j < is.length), Rgt is[j].m ∧ is[j].m.All Sht ∧ (lev + 1) + is[j].m.depth ≤ 1000 ∧ is[j].m.size ≤ 30000 := fun j hj => by
    have hm : is[j] ∈ is := List.getElem_mem hj
    have hmm : is[j].m ∈ is.map Vt.m := List.mem_map.2 ⟨_, hm, rfl⟩
    have h1 := Vl.depths_le _ hmm
    have h2 := Vl.sizes_le _ hmm
    exact ⟨hri _ hmm, hsi _ hmm, by omega, by omega⟩
  have hxl : ∀ x ∈ (is.map Vt.m).map (prB ls n (lev + 1)), x.length ≤ 900000000 := fun x hx => by
    obtain ⟨y, hy, rfl⟩ := List.mem_map.1 hx
    have h1 := Vl.depths_le _ hy
    have h2 := Vl.sizes_le _ hy
    exact item_len ls hn (hsi y hy) (by omega) (by omega)
  have hih : ∀ (j : Nat) (hj : j < is.length) (hjx : j < ((is.map Vt.m).map (prB ls n (lev + 1))).length) (W : World), Below w.heap.size w W → Calls Tryz.prog 53 #[is[j].v, .int .i64 ind, .int .i64 ((lev : Int) + 1)] W (StrP ((is.map Vt.m).map (prB ls n (lev + 1)))[j] W) := fun j hj hjx W hW => by
    obtain ⟨h1, h2, h3, h4⟩ := hit j hj
    have := ih is[j] (List.getElem_mem hj) (lev + 1) W ((hok'.item j hj).grow hW) h1 h2 h3 h4
    simpa using this
  rw [prB_mk] at hbd ⊢
  rcases hr.is with ⟨rfl, _⟩ | ⟨rfl, _⟩ | ⟨rfl, _⟩ | ⟨rfl, _⟩ | ⟨rfl, _, _⟩ | ⟨rfl, _, hkl, _⟩
  · exact rtleaf ind lev 1 t ko kc kl.length o c is.length w (.inl rfl) (by omega)
  · exact rtleaf ind lev 2 t ko kc kl.length o c is.length w (.inr (.inl rfl)) (by omega)
  · exact rtleaf ind lev 3 t ko kc kl.length o c is.length w (.inr (.inr (.inl rfl))) (by omega)
  · exact rtleaf ind lev 4 t ko kc kl.length o c is.length w (.inr (.inr (.inr rfl))) (by omega)
  · rw [if_neg (by decide), if_neg (by decide), if_pos rfl] at hbd ⊢
    have hc := Nat.le_trans (comma_le ls n lev 91 93 _) hbd
    rcases hm with ⟨rfl, rfl⟩ | ⟨rfl, rfl⟩
    · exact rtlist5T n lev hn (by omega) t ko kc kl o c is _ w hok' (by simp) hc hxl hih
    · exact rtlist5F n lev hn (by omega) t ko kc kl o c is _ w hok' (by simp) hc hxl hih
  · rw [if_neg (by decide), if_neg (by decide), if_neg (by decide), if_pos rfl] at hbd ⊢
    have hc := Nat.le_trans (comma_le ls n lev 123 125 _) hbd
    have hkl' : kl.length = is.length := by simpa using hkl
    rcases hm with ⟨rfl, rfl⟩ | ⟨rfl, rfl⟩
    · exact rtlist6T n lev hn (by omega) t ko kc kl o c is _ w hok' (by simp) hkl' (fun x hx => by have := hkx x hx; omega) hc hxl hih
    · exact rtlist6F n lev hn (by omega) t ko kc kl o c is _ w hok' (by simp) hkl' (fun x hx => by have := hkx x hx; omega) hc hxl hih)
/-- a value that can be printed, as the document's text -/
theorem rtext_pri {x : Vt} {w : World} (hx : Pri x w) (hr : rightM x.m = true) (ls : Bool) (ind : Int) (n lev : Nat) (hn : n ≤ 8) (hl : lev ≤ 32) (hm : (ls = true ∧ ind = (n : Int)) ∨ (ls = false ∧ ind = -1)) : Calls Tryz.prog 53 #[x.v, .int .i64 ind, .int .i64 (lev : Int)] w (StrP (prB ls n lev x.m) w) := by
  obtain ⟨_, h1, h2, _⟩ := right_good hr
  exact rtextG ls ind n hn hm x lev w hx.fine.ok (right_rgt hr) hx.sht (by omega) (by omega)

set_option maxHeartbeats 16000000 in
set_option maxRecDepth 1000000 in
theorem rcompact_any (x : Vt) (w : World) (hx : Pri x w) : Calls Tryz.prog 19 #[x.v] w (TextP (compactM x.m) w) := by
  have HR := hq (fun V (hV : Below w.heap.size w V) => rrightV_any x V (hx.fine.grow hV))
  have HT := hq (fun (hr : rightM x.m = true) V (hV : Below w.heap.size w V) => rtext_pri (hx.grow hV) hr false (-1) 0 0 (by decide) (by decide) (.inr ⟨rfl, rfl⟩))
  have HP : Hq (∀ (r : Bs × Int) W', compactM x.m = r → Below w.heap.size w W' → TextP (compactM x.m) w (.returned (.tuple #[.string (st r.1), .int .i64 r.2])) W') := hq (fun r W' h1 h2 => by rw [h1]; exact ⟨rfl, h2⟩)
  have HCM : Hq (compactM x.m = if rightM x.m = true then (prB false 0 0 x.m, 0) else ([], 1)) := hq rfl
  generalize TextP (compactM x.m) w = PP at *
  generalize compactM x.m = CM at *
  generalize prB false 0 0 x.m = PB at *
  generalize rightM x.m = r at *
  clear hx
  obtain ⟨k, t, ⟨ko, kc, kl⟩, o, c, is⟩ := x
  rw [Vt.v_mk'] at *
  have HB0 := hq (below_alloc w (.cells #[.int .i64 k, .string (st t), .slice ko kl.length kc, .slice o is.length c] 25))
  have HW0 := hq (Whole.made w 25 #[.int .i64 k, .string (st t), .slice ko kl.length kc, .slice o is.length c])
  go_enter Tryz.func19, Tryz.ntmps19
  go_upto_region 1 with fail
  generalize w.heap.size = g at HW0
  generalize (w.alloc (.cells #[.int .i64 k, .string (st t), .slice ko kl.length kc, .slice o is.length c] 25)) = V0 at *
  obtain ⟨c0, c1, c2, c3⟩ := four_cells HW0.o
  go_wp2_with fail
  refine (HR.o V0 HB0.o).mono ?_
  rintro e w1 ⟨rfl, hb1⟩
  have HB1 := hq (below_trans HB0.o hb1)
  have HW1 := hq (HW0.o.grow hb1)
  clear HR hb1 HB0 HW0 c0 c1 c2 c3
  obtain ⟨c0, c1, c2, c3⟩ := four_cells HW1.o
  cases r with
  | false =>
    have HV := hq (HP.o ([], 1) w1 (by rw [HCM.o]; rfl) HB1.o)
    clear HP HCM HT
    go_wp2_with fail
    first
      | exact HV.o
      | (go_ret2
         exact HV.o)
      | (go_ret
         exact HV.o)
      | trace_state
  | true =>
    have HC := hq (HT.o (by first | rfl | trivial) w1 HB1.o)
    rw [show ((0 : Nat) : Int) = 0 from rfl] at HC
    have HV := hq (fun W' h => HP.o (PB, 0) W' (by rw [HCM.o]; rfl) (below_trans HB1.o h))
    clear HP HCM HT
    go_wp2_with fail
    refine HC.o.mono ?_
    rintro e w2 ⟨rfl, hb2⟩
    have HU := hq (HV.o w2 hb2)
    clear HV HC hb2 c0 c1 c2 c3
    go_wp2_with fail
    first
      | exact HU.o
      | (go_ret2
         exact HU.o)
      | (go_ret
         exact HU.o)
      | trace_state

set_option maxHeartbeats 16000000 in
set_option maxRecDepth 1000000 in
theorem rcanon_any (x : Vt) (w : World) (hx : Pri x w) : Calls Tryz.prog 20 #[x.v] w (TextP (compactM (sortM x.m)) w) := by
  have HR := hq (fun V (hV : Below w.heap.size w V) => rrightV_any x V (hx.fine.grow hV))
  have HSO := hq (fun V (hV : Below w.heap.size w V) => rSorted_any x V (hx.fine.grow hV))
  have e0 : ∀ v : Vl, (if openM v = true then sortV v else zeroL) = sortM v := fun _ => rfl
  rw [e0] at HSO
  have HT : Hq (∀ (hr : rightM x.m = true) (y : Vt) V V', Below w.heap.size w V → Below V.heap.size V V' → y.Own 25 9 V.heap.size (fun _ => True) V' → y.m = sortM x.m → Calls Tryz.prog 53 #[y.v, .int .i64 (-1), .int .i64 0] V' (StrP (prB false 0 0 (sortM x.m)) V')) := hq (fun hr y V V' h1 h2 ho hm => by
    have := rtext_pri (sortM_pri (hx.grow h1) ho hm) (by rw [hm, sortM_right]; exact hr) false (-1) 0 0 (by decide) (by decide) (.inr ⟨rfl, rfl⟩)
    rwa [hm] at this)
  have HP : Hq (∀ (r : Bs × Int) W', compactM (sortM x.m) = r → Below w.heap.size w W' → TextP (compactM (sortM x.m)) w (.returned (.tuple #[.string (st r.1), .int .i64 r.2])) W') := hq (fun r W' h1 h2 => by rw [h1]; exact ⟨rfl, h2⟩)
  have HCM : Hq (compactM (sortM x.m) = if rightM x.m = true then (prB false 0 0 (sortM x.m), 0) else ([], 1)) := hq (by rw [← sortM_right]; rfl)
  generalize TextP (compactM (sortM x.m)) w = PP at *
  generalize compactM (sortM x.m) = CM at *
  generalize prB false 0 0 (sortM x.m) = PB at *
  generalize sortM x.m = SM at *
  generalize rightM x.m = r at *
  clear hx e0
  obtain ⟨k, t, ⟨ko, kc, kl⟩, o, c, is⟩ := x
  rw [Vt.v_mk'] at *
  have HB0 := hq (below_alloc w (.cells #[.int .i64 k, .string (st t), .slice ko kl.length kc, .slice o is.length c] 25))
  have HW0 := hq (Whole.made w 25 #[.int .i64 k, .string (st t), .slice ko kl.length kc, .slice o is.length c])
  go_enter Tryz.func20, Tryz.ntmps20
  go_upto_region 1 with fail
  generalize w.heap.size = g at HW0
  generalize (w.alloc (.cells #[.int .i64 k, .string (st t), .slice ko kl.length kc, .slice o is.length c] 25)) = V0 at *
  obtain ⟨c0, c1, c2, c3⟩ := four_cells HW0.o
  go_wp2_with fail
  refine (HR.o V0 HB0.o).mono ?_
  rintro e w1 ⟨rfl, hb1⟩
  have HB1 := hq (below_trans HB0.o hb1)
  have HW1 := hq (HW0.o.grow hb1)
  clear HR hb1 HB0 HW0 c0 c1 c2 c3
  obtain ⟨c0, c1, c2, c3⟩ := four_cells HW1.o
  cases r with
  | false =>
    have HV := hq (HP.o ([], 1) w1 (by rw [HCM.o]; rfl) HB1.o)
    clear HP HCM HT HSO
    go_wp2_with fail
    first
      | exact HV.o
      | (go_ret2
         exact HV.o)
      | (go_ret
         exact HV.o)
      | trace_state
  | true =>
    have HS := hq (HSO.o w1 HB1.o)
    have HV := hq (fun W' h => HP.o (PB, 0) W' (by rw [HCM.o]; rfl) (below_trans HB1.o h))
    clear HP HCM HSO
    go_wp2_with fail
    refine HS.o.mono ?_
    rintro e w2 ⟨y, rfl, h1, h2, hb2⟩
    have HC := hq (HT.o (by first | rfl | trivial) y w1 w2 HB1.o hb2 h1 h2)
    have HV2 := hq (fun W' h => HV.o W' (below_trans hb2 h))
    clear HS HT HV h1 h2 hb2 c0 c1 c2 c3
    generalize y.v = yv at *
    go_wp2_with fail
    refine HC.o.mono ?_
    rintro e w3 ⟨rfl, hb3⟩
    have HU := hq (HV2.o w3 hb3)
    clear HV2 HC hb3
    go_wp2_with fail
    first
      | exact HU.o
      | (go_ret2
         exact HU.o)
      | (go_ret
         exact HU.o)
      | trace_state

set_option maxHeartbeats 16000000 in
set_option maxRecDepth 1000000 in
theorem rpretty_any (x : Vt) (i lv : Int) (w : World) (hx : Pri x w) : Calls Tryz.prog 21 #[x.v, .int .i64 i, .int .i64 lv] w (TextP (prettyM x.m i lv) w) := by
  have HR := hq (fun V (hV : Below w.heap.size w V) => rrightV_any x V (hx.fine.grow hV))
  have HT : Hq (∀ (hr : rightM x.m = true) (h1 : 0 ≤ i) (h2 : i ≤ 8) (h3 : 0 ≤ lv) (h4 : lv ≤ 32) V (hV : Below w.heap.size w V), Calls Tryz.prog 53 #[x.v, .int .i64 i, .int .i64 lv] V (StrP (prB true i.toNat lv.toNat x.m) V)) := hq (fun hr h1 h2 h3 h4 V hV => by
    have := rtext_pri (hx.grow hV) hr true i i.toNat lv.toNat (by omega) (by omega) (.inl ⟨rfl, by omega⟩)
    rwa [show ((lv.toNat : Nat) : Int) = lv by omega] at this)
  have HP : Hq (∀ (r : Bs × Int) W', prettyM x.m i lv = r → Below w.heap.size w W' → TextP (prettyM x.m i lv) w (.returned (.tuple #[.string (st r.1), .int .i64 r.2])) W') := hq (fun r W' h1 h2 => by rw [h1]; exact ⟨rfl, h2⟩)
  have HCM : Hq (prettyM x.m i lv = if rightM x.m = true ∧ 0 ≤ i ∧ i ≤ 8 ∧ 0 ≤ lv ∧ lv ≤ 32 then (prB true i.toNat lv.toNat x.m, 0) else ([], 1)) := hq rfl
  generalize TextP (prettyM x.m i lv) w = PP at *
  generalize prettyM x.m i lv = CM at *
  generalize prB true i.toNat lv.toNat x.m = PB at *
  generalize rightM x.m = r at *
  clear hx
  obtain ⟨k, t, ⟨ko, kc, kl⟩, o, c, is⟩ := x
  rw [Vt.v_mk'] at *
  have HB0 := hq (below_alloc w (.cells #[.int .i64 k, .string (st t), .slice ko kl.length kc, .slice o is.length c] 25))
  have HW0 := hq (Whole.made w 25 #[.int .i64 k, .string (st t), .slice ko kl.length kc, .slice o is.length c])
  go_enter Tryz.func21, Tryz.ntmps21
  go_upto_region 1 with fail
  generalize w.heap.size = g at HW0
  generalize (w.alloc (.cells #[.int .i64 k, .string (st t), .slice ko kl.length kc, .slice o is.length c] 25)) = V0 at *
  obtain ⟨c0, c1, c2, c3⟩ := four_cells HW0.o
  go_wp2_with fail
  refine (HR.o V0 HB0.o).mono ?_
  rintro e w1 ⟨rfl, hb1⟩
  have HB1 := hq (below_trans HB0.o hb1)
  have HW1 := hq (HW0.o.grow hb1)
  clear HR hb1 HB0 HW0 c0 c1 c2 c3
  obtain ⟨c0, c1, c2, c3⟩ := four_cells HW1.o
  by_cases hgo : r = true ∧ 0 ≤ i ∧ i ≤ 8 ∧ 0 ≤ lv ∧ lv ≤ 32
  · obtain ⟨rfl, h1, h2, h3, h4⟩ := hgo
    have HC := hq (HT.o (by first | rfl | trivial) h1 h2 h3 h4 w1 HB1.o)
    have HV := hq (fun W' h => HP.o (PB, 0) W' (by rw [HCM.o, if_pos ⟨rfl, h1, h2, h3, h4⟩]) (below_trans HB1.o h))
    have d1 : decide (i < 0) = false := decide_eq_false (by omega)
    have d2 : decide (8 < i) = false := decide_eq_false (by omega)
    have d3 : decide (lv < 0) = false := decide_eq_false (by omega)
    have d4 : decide (32 < lv) = false := decide_eq_false (by omega)
    clear HP HCM HT
    go_wp2_with fail
    refine HC.o.mono ?_
    rintro e w2 ⟨rfl, hb2⟩
    have HU := hq (HV.o w2 hb2)
    clear HV HC hb2 c0 c1 c2 c3
    go_wp2_with fail
    first
      | exact HU.o
      | (go_ret2
         exact HU.o)
      | (go_ret
         exact HU.o)
      | trace_state
  · have HV := hq (HP.o ([], 1) w1 (by rw [HCM.o, if_neg hgo]) HB1.o)
    have hcs : r = false ∨ (r = true ∧ i < 0) ∨ (r = true ∧ 0 ≤ i ∧ 8 < i) ∨ (r = true ∧ 0 ≤ i ∧ i ≤ 8 ∧ lv < 0) ∨ (r = true ∧ 0 ≤ i ∧ i ≤ 8 ∧ 0 ≤ lv ∧ 32 < lv) := by
      cases r with
      | false => exact .inl rfl
      | true =>
        have h : ¬ (0 ≤ i ∧ i ≤ 8 ∧ 0 ≤ lv ∧ lv ≤ 32) := fun h => hgo ⟨rfl, h⟩
        simp only [true_and, Bool.true_eq_false, false_or]
        omega
    clear HP HCM HT hgo
    rcases hcs with rfl | ⟨rfl, h1⟩ | ⟨rfl, h1, h2⟩ | ⟨rfl, h1, h2, h3⟩ | ⟨rfl, h1, h2, h3, h4⟩
    all_goals
      (try have d1 : decide (i < 0) = false := decide_eq_false (by omega))
      (try have d2 : decide (8 < i) = false := decide_eq_false (by omega))
      (try have d3 : decide (lv < 0) = false := decide_eq_false (by omega))
      (try have d5 : decide (i < 0) = true := decide_eq_true (by omega))
      (try have d6 : decide (8 < i) = true := decide_eq_true (by omega))
      (try have d7 : decide (lv < 0) = true := decide_eq_true (by omega))
      (try have d8 : decide (32 < lv) = true := decide_eq_true (by omega))
      go_wp2_with fail
      first
        | exact HV.o
        | (go_ret2
           exact HV.o)
        | (go_ret
           exact HV.o)
        | trace_state
end Go.Proofs.YtnlkokgekjlmmaaGreatDoor
