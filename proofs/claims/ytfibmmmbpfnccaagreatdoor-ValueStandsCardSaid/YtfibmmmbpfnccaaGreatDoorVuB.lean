/-
  WALK: value.Get.
-/
import Derived.Test.YtfibmmmbpfnccaaGreatDoorVuA
namespace Go.Proofs.YtfibmmmbpfnccaaGreatDoor
open Go.RowKit

/-- the first place of a key -/
def ixOf : List Bs → Bs → Option Nat
  | [], _ => none
  | x :: l, k => if x = k then some 0 else (ixOf l k).map (· + 1)
theorem ixOf_some {k : Bs} : ∀ {l : List Bs} {i : Nat}, ixOf l k = some i → ∃ h : i < l.length, l[i] = k ∧ ∀ j (hj : j < i), l[j] ≠ k
  | [], i, h => by cases h
  | x :: l, i, h => by
    unfold ixOf at h
    by_cases e : x = k
    · rw [if_pos e] at h
      obtain rfl := Option.some.inj h
      exact ⟨by simp, by simpa using e, fun j hj => absurd hj (Nat.not_lt_zero _)⟩
    · rw [if_neg e] at h
      cases hi : ixOf l k with
      | none => rw [hi] at h; cases h
      | some m =>
        rw [hi] at h
        obtain rfl := Option.some.inj h
        obtain ⟨h1, h2, h3⟩ := ixOf_some hi
        refine ⟨by simpa using h1, by simpa using h2, fun j hj => ?_⟩
        cases j with
        | zero => simpa using e
        | succ j =>
          have hjm : j < m := by simp only at hj; omega
          simpa using h3 j hjm
theorem ixOf_none {k : Bs} : ∀ {l : List Bs}, ixOf l k = none → ∀ j (hj : j < l.length), l[j] ≠ k
  | [], _, j, hj => absurd hj (by simp)
  | x :: l, h, j, hj => by
    unfold ixOf at h
    by_cases e : x = k
    · rw [if_pos e] at h; cases h
    · rw [if_neg e] at h
      cases hi : ixOf l k with
      | some m => rw [hi] at h; cases h
      | none =>
        cases j with
        | zero => simpa using e
        | succ j => simpa using ixOf_none hi j (by simpa using hj)
def ixI (l : List Bs) (k : Bs) : Int := match ixOf l k with
  | some i => (i : Int)
  | none => -1
theorem index_any (ko : Option Addr) (kc : Nat) (kl : List Bs) (key : Bs) (V : World) (hkl : kl.length ≤ kc) (hkc : kc ≤ maxLen) (hin : StrsIn V ko kl) :
    Calls Tryz.prog 62 #[.slice ko kl.length kc, .string (st key)] V fun e w' => e = .returned (.int .i64 (ixI kl key)) ∧ w' = V := by
  unfold maxLen at hkc
  have hgd : ∀ j (hj : j < kl.length), (kl.map st).getD j ByteArray.empty = st kl[j] := fun j hj => by simp [hj]
  have hne : ∀ {a b : Bs}, a ≠ b → st a ≠ st b := fun h e => h (by
    have := congrArg (fun s : ByteArray => s.data.toList) e
    simpa [st_list] using this)
  rcases Nat.eq_zero_or_pos kl.length with h0 | hp
  · obtain rfl := List.length_eq_zero_iff.1 h0
    exact Tryz.slices_Index_string_empty ko kc (st key) V
  · obtain ⟨b, f, ho, _⟩ := hin 0 hp
    subst ho
    have hc : ∀ j, j < (kl.map st).length → V.cell? ⟨b, f + j, none⟩ = some (.string ((kl.map st).getD j ByteArray.empty)) := fun j hj => by
      rw [List.length_map] at hj
      obtain ⟨b', f', h1, h2⟩ := hin j hj
      injection h1 with h1
      injection h1 with hb hf
      subst hb hf
      rw [hgd j hj, h2]
    have h := Tryz.slices_Index_string b f kl.length kc (kl.map st) (st key) V (by rw [List.length_map]; exact Nat.le_refl _) (by omega) hc
    refine h.mono ?_
    rintro e w' ⟨rfl, h2⟩
    refine ⟨?_, h2⟩
    congr 2
    unfold ixI
    cases hi : ixOf kl key with
    | some i =>
      obtain ⟨h1, h3, h4⟩ := ixOf_some hi
      refine Lib.idxOfS_hit (kl.map st) kl.length i (st key) h1 (by rw [List.length_map]; exact Nat.le_refl _) ?_ (fun j hj => ?_)
      · rw [hgd i h1, h3]
      · rw [hgd j (by omega)]
        exact hne (h4 j hj)
    | none =>
      refine Lib.idxOfS_miss (kl.map st) kl.length (st key) (fun j hj => ?_)
      rw [hgd j hj]
      exact hne (ixOf_none hi j hj)
/-- a member -/
def getM (v : Vl) (key : Bs) : Option Vl := if openM v = true ∧ v.k = 6 then (match ixOf v.ks key with
  | some i => v.is[i]?
  | none => none) else none
def GetPost (r : Option Vl) (W : World) (e : Ending) (W' : World) : Prop := ∃ y : Vt, e = .returned (.tuple #[y.v, .bool r.isSome]) ∧ y.Own 25 9 W.heap.size (fun _ => True) W' ∧ y.m = r.getD zeroL ∧ Below W.heap.size W W'
set_option maxHeartbeats 8000000 in
set_option maxRecDepth 1000000 in
theorem vGet_any (x : Vt) (key : Bs) (w : World) (hE : Env w) (hx : Fine x w) : Calls Tryz.prog 17 #[x.v, .string (st key)] w (GetPost (getM x.m key) w) := by
  have HOA := hq (fun V (hV : Below w.heap.size w V) => open_any x V (hE.grow hV) (hx.ok.grow hV) hx.lim (by have := hx.sz; omega))
  obtain ⟨k, t, ⟨ko, kc, kl⟩, o, c, is⟩ := x
  have hkl : kl.length ≤ kc := hx.ok.hks.le
  have hkc : kc ≤ maxLen := hx.ok.hks.cp
  have hcl := hx.ok.hl
  have hcc := hx.ok.hc
  unfold maxLen at hcc
  have HIX := hq (fun V (hV : Below w.heap.size w V) => index_any ko kc kl key V hkl hkc ((hx.ok.grow hV).hks.rd))
  have HRM := hq (fun (ho : openM (Vt.mk k t ⟨ko, kc, kl⟩ o c is).m = true) (i : Nat) (hi : i < is.length) V (hV : Below w.heap.size w V) => remR_any is[i] V ((hx.ok.grow hV).item i hi) (by
    have h1 : Rem1 (Vt.mk k t ⟨ko, kc, kl⟩ o c is).m := ⟨(openM_good ho).1, hx.sz⟩
    rw [Vt.m_mk] at h1
    exact h1.items _ (List.mem_map.2 ⟨_, List.getElem_mem hi, rfl⟩)))
  have HLE := hq (fun (ho : openM (Vt.mk k t ⟨ko, kc, kl⟩ o c is).m = true) (h6 : k = 6) => by
    have h1 := (openM_good ho).1
    rw [Vt.m_mk] at h1
    have h2 := (h1.obj h6).1
    rw [List.length_map] at h2
    exact h2)
  have HGN : Hq (¬ (openM (Vt.mk k t ⟨ko, kc, kl⟩ o c is).m = true ∧ k = 6) → getM (Vt.mk k t ⟨ko, kc, kl⟩ o c is).m key = none) := hq (fun h => by
    unfold getM
    rw [if_neg]
    intro h2
    exact h ⟨h2.1, by have := h2.2; rw [Vt.m_mk] at this; exact this⟩)
  have HGM : Hq (ixOf kl key = none → getM (Vt.mk k t ⟨ko, kc, kl⟩ o c is).m key = none) := hq (fun h => by
    unfold getM
    split
    · have e : ((Vt.mk k t ⟨ko, kc, kl⟩ o c is).m).ks = kl := by rw [Vt.m_mk]; rfl
      rw [e, h]
    · rfl)
  have HGS : Hq (openM (Vt.mk k t ⟨ko, kc, kl⟩ o c is).m = true → k = 6 → ∀ i (hi : i < is.length), ixOf kl key = some i → getM (Vt.mk k t ⟨ko, kc, kl⟩ o c is).m key = some is[i].m) := hq (fun ho h6 i hi h => by
    unfold getM
    have e : ((Vt.mk k t ⟨ko, kc, kl⟩ o c is).m).ks = kl := by rw [Vt.m_mk]; rfl
    have e2 : ((Vt.mk k t ⟨ko, kc, kl⟩ o c is).m).is = is.map Vt.m := by rw [Vt.m_mk]; rfl
    rw [if_pos ⟨ho, by rw [Vt.m_mk]; exact h6⟩, e, h]
    simp only
    rw [e2]
    simp [hi])
  have HX := hq hx
  rw [Vt.v_mk'] at *
  generalize (Vt.mk k t ⟨ko, kc, kl⟩ o c is).m = X at *
  have HP : Hq (∀ (r : Option Vl) (y : Vt) W', getM X key = r → y.Own 25 9 w.heap.size (fun _ => True) W' → y.m = r.getD zeroL → Below w.heap.size w W' → GetPost (getM X key) w (.returned (.tuple #[y.v, .bool r.isSome])) W') := hq (fun r y W' h h1 h2 h3 => by rw [h]; exact ⟨y, rfl, h1, h2, h3⟩)
  generalize GetPost (getM X key) w = PP at *
  generalize getM X key = GM at *
  obtain ⟨hb0, hw0, hw1⟩ := two_boxes w 25 #[.int .i64 k, .string (st t), .slice ko kl.length kc, .slice o is.length c] #[.int .i64 0, .string ⟨#[]⟩, .slice none 0 0, .slice none 0 0]
  have HB0 := hq hb0
  have HW0 := hq hw0
  have HW1 := hq hw1
  have HG1 := hq hw1.lt
  clear hx hE hb0 hw0 hw1
  go_enter Tryz.func17, Tryz.ntmps17
  go_upto_region 1 with fail
  generalize ((w.alloc (.cells #[.int .i64 k, .string (st t), .slice ko kl.length kc, .slice o is.length c] 25)).alloc (.cells #[.int .i64 0, .string ⟨#[]⟩, .slice none 0 0, .slice none 0 0] 25)) = V0 at *
  have HGW : Hq (w.heap.size ≤ w.heap.size + 1) := hq (by omega)
  obtain ⟨c0, c1, c2, c3⟩ := four_cells HW0.o
  have HIC := hq (HIX.o V0 HB0.o)
  have HZER : Hq (∀ V, Below w.heap.size w V → GM = none → PP (.returned (.tuple #[zeroT.v, .bool false])) ((((V.setCell ⟨w.heap.size + 1, 0, none⟩ (.int .i64 0)).setCell ⟨w.heap.size + 1, 1, none⟩ (.string ⟨#[]⟩)).setCell ⟨w.heap.size + 1, 2, none⟩ (.slice none 0 0)).setCell ⟨w.heap.size + 1, 3, none⟩ (.slice none 0 0))) := hq (fun V h1 h2 => HP.o none zeroT _ h2 (zeroT_own _ _) zeroT_m (below_put4 h1 HGW.o _ _ _ _))
  clear HIX
  have HIV : Hq ((ixI kl key = -1 ∧ ixOf kl key = none) ∨ ∃ i : Nat, i < kl.length ∧ ixI kl key = (i : Int) ∧ ixOf kl key = some i) := hq (by
    cases h : ixOf kl key with
    | none => exact .inl ⟨by unfold ixI; rw [h], rfl⟩
    | some i => exact .inr ⟨i, (ixOf_some h).1, by unfold ixI; rw [h], rfl⟩)
  generalize ixI kl key = ix at *
  go_wp2_with fail
  refine HIC.o.mono ?_
  rintro e w2 ⟨rfl, h2⟩
  obtain rfl := h2.symm
  clear HIC
  have stuck : ∀ V, Below V0.heap.size V0 V → True := fun _ _ => trivial
  rcases HIV.o with ⟨hm, hno⟩ | ⟨i, hi, hix, hso⟩
  · have hixz : ix < 0 := by omega
    have HGZ := hq (HGM.o hno)
    obtain ⟨r0, r1, r2, r3⟩ := four_cells HW1.o
    have f0 := HW1.o.free 0
    have f1 := HW1.o.free 1
    have f2 := HW1.o.free 2
    have f3 := HW1.o.free 3
    have HV := hq (HZER.o V0 HB0.o HGZ.o)
    clear HGM HGN HGS HRM HLE HX HP HOA HZER HGZ hm hno HIV stuck
    go_wp2_with fail
    refine bodyPost_ret (v := .tuple #[zeroT.v, .bool false]) ?_ rfl HV.o
    simp [results, Tryz.results17, go_sem, r0, r1, r2, r3, zeroT, Vt.v_mk']
  · have HIXE := hq hix
    have hixn : ¬ ix < 0 := by omega
    have HSO := hq hso
    clear HIV hix hso stuck
    by_cases h6 : k = 6
    case neg =>
      have e6 : (k != 6) = true := bne_iff_ne.2 h6
      have HGZ := hq (HGN.o (fun h => h6 h.2))
      obtain ⟨r0, r1, r2, r3⟩ := four_cells HW1.o
      have f0 := HW1.o.free 0
      have f1 := HW1.o.free 1
      have f2 := HW1.o.free 2
      have f3 := HW1.o.free 3
      have HV := hq (HZER.o V0 HB0.o HGZ.o)
      clear HGM HGN HGS HRM HLE HX HP HOA HZER HGZ h6 HIXE HSO
      go_wp2_with fail
      refine bodyPost_ret (v := .tuple #[zeroT.v, .bool false]) ?_ rfl HV.o
      simp [results, Tryz.results17, go_sem, r0, r1, r2, r3, zeroT, Vt.v_mk']
    have e6 : (k != 6) = false := by rw [bne, beq_iff_eq.2 h6]; rfl
    have H6 := hq h6
    have HOC := hq (HOA.o V0 HB0.o)
    clear HOA h6
    go_wp2_with fail
    refine HOC.o.mono ?_
    rintro e w3 ⟨rfl, hb3⟩
    have HB3 := hq (below_trans HB0.o hb3)
    have HS3 := hq hb3.size
    have HW03 := hq (HW0.o.grow hb3)
    have HW13 := hq (HW1.o.grow hb3)
    obtain ⟨d0, d1, d2, d3⟩ := four_cells HW03.o
    clear hb3 HOC c0 c1 c2 c3
    by_cases ho : openM X = true
    case neg =>
      have hof : openM X = false := by simpa using ho
      have HGZ := hq (HGN.o (fun h => ho h.1))
      obtain ⟨r0, r1, r2, r3⟩ := four_cells HW13.o
      have f0 := HW13.o.free 0
      have f1 := HW13.o.free 1
      have f2 := HW13.o.free 2
      have f3 := HW13.o.free 3
      have HV := hq (HZER.o w3 HB3.o HGZ.o)
      rw [hof]
      clear HGM HGN HGS HRM HLE HX HP HZER HGZ ho hof HIXE HSO H6
      go_wp2_with fail
      refine bodyPost_ret (v := .tuple #[zeroT.v, .bool false]) ?_ rfl HV.o
      simp [results, Tryz.results17, go_sem, r0, r1, r2, r3, zeroT, Vt.v_mk']
    case pos =>
      have hle := HLE.o ho H6.o
      have hil : i < is.length := by omega
      have HGI := hq (HGS.o ho H6.o i hil HSO.o)
      have HRC := hq (HRM.o ho i hil w3 HB3.o)
      obtain ⟨b, f, hoo, hia⟩ := ((HX.o.ok.grow HB3.o)).at_ i hil
      obtain ⟨i0, i1, i2, i3⟩ := hia
      have hixz : ix < (is.length : Int) := by have := HIXE.o; omega
      obtain rfl : ix = (i : Int) := HIXE.o
      have hixz2 : (i : Int) < (is.length : Int) := by omega
      rw [ho]
      clear HGM HGN HGS HRM HLE HX HZER ho hle HIXE HSO H6
      generalize is[i] = x at *
      subst hoo
      go_wp2_with fail
      refine HRC.o.mono ?_
      rintro e w4 ⟨y, rfl, hyo, hym, hb4⟩
      obtain ⟨yk, yt, ⟨yko, ykc, ykl⟩, yo, yc, yis⟩ := y
      have HR4 := hq (HW13.o.grow hb4)
      obtain ⟨r0, r1, r2, r3⟩ := four_cells HR4.o
      have f0 := HR4.o.free 0
      have f1 := HR4.o.free 1
      have f2 := HR4.o.free 2
      have f3 := HR4.o.free 3
      have HV := hq (fun a b c d => HP.o _ _ ((((w4.setCell ⟨w.heap.size + 1, 0, none⟩ a).setCell ⟨w.heap.size + 1, 1, none⟩ b).setCell ⟨w.heap.size + 1, 2, none⟩ c).setCell ⟨w.heap.size + 1, 3, none⟩ d) HGI.o ((own_put4 hyo (show w.heap.size + 1 < w3.heap.size by have := HG1.o; have := HS3.o; omega) a b c d).base (by have := HB3.o.size; omega)) hym (below_put4 (below_trans HB3.o hb4) HGW.o a b c d))
      clear hyo hym hb4 HRC HP d0 d1 d2 d3 i0 i1 i2 i3
      rw [Vt.v_mk']
      go_wp2_with fail
      refine bodyPost_ret (v := .tuple #[(Vt.mk yk yt ⟨yko, ykc, ykl⟩ yo yc yis).v, .bool true]) ?_ rfl (HV.o _ _ _ _)
      simp [results, Tryz.results17, go_sem, r0, r1, r2, r3, Vt.v_mk']
end Go.Proofs.YtfibmmmbpfnccaaGreatDoor
