/-
  WALK: the law ValueHolds.
-/
import Derived.Test.YtfibmmmbpfnccaaGreatDoorVuL
import Derived.Test.YtfibmmmbpfnccaaGreatDoorVuB
namespace Go.Proofs.YtfibmmmbpfnccaaGreatDoor
open Go.RowKit

theorem row_right (x : Vl) (h : x.size ≤ 200) : rightM (.mk 5 [] [] [x]) = (rightM x && decide (x.depth < 32)) := by
  have hn : nodeM (.mk 5 [] [] [x]) = true := by rw [nodeM_mk]; rfl
  have h5 : decide ((Vl.mk 5 [] [] [x]).k ≠ 7) = true := rfl
  have hz : (Vl.mk 5 [] [] [x]).size = 1 + x.size := by simp only [Vl.size, Vl.sizes]; omega
  have hd : (Vl.mk 5 [] [] [x]).depth = x.depth + 1 := by simp only [Vl.depth, Vl.depths]; omega
  have ha : (Vl.mk 5 [] [] [x]).allB (fun x => nodeM x && decide (x.k ≠ 7)) = x.allB (fun x => nodeM x && decide (x.k ≠ 7)) := by
    simp only [Vl.allB, Vl.allsB, hn, h5, Bool.and_true, Bool.true_and]
  rw [Bool.eq_iff_iff]
  unfold rightM
  rw [hz, hd, ha]
  simp only [Bool.and_eq_true, decide_eq_true_eq]
  constructor
  · rintro ⟨h1, h2, h3⟩
    exact ⟨⟨by omega, by omega, h3⟩, by omega⟩
  · rintro ⟨⟨h1, h2, h3⟩, h4⟩
    exact ⟨by omega, by omega, h3⟩
/-- an operation, not looked into -/
def opV (o : Op) : Op := o
theorem ixOf_at : ∀ {l : List Bs}, l.Nodup → ∀ j (hj : j < l.length), ixOf l l[j] = some j
  | [], _, j, hj => absurd hj (by simp)
  | x :: l, hn, 0, _ => by simp [ixOf]
  | x :: l, hn, j + 1, hj => by
    obtain ⟨h1, h2⟩ := List.nodup_cons.1 hn
    have hj' : j < l.length := by simpa using hj
    have hne : x ≠ l[j] := fun e => h1 (e ▸ List.getElem_mem hj')
    simp only [List.getElem_cons_succ]
    unfold ixOf
    rw [if_neg hne, ixOf_at h2 j hj']
    rfl
/-- what lies in memory behind the row of the tree alone -/
structure Pv (w : World) (g gA g5 : Nat) (A : Array Value) (W : World) : Prop where
  lo : Below w.heap.size w W
  b : Whole W g 25 A
  i : Whole W gA 25 A
  r : Whole W g5 25 #[.int .i64 5, .string ⟨#[]⟩, .slice none 0 0, .slice (some ⟨gA, 0, none⟩) 1 1]
theorem Pv.grow {w W W' : World} {g gA g5 : Nat} {A : Array Value} (h : Pv w g gA g5 A W) (hb : Below W.heap.size W W') : Pv w g gA g5 A W' :=
  ⟨below_trans h.lo hb, h.b.grow hb, h.i.grow hb, h.r.grow hb⟩
theorem Pv.drew {w W : World} {g gA g5 : Nat} {A : Array Value} (h : Pv w g gA g5 A W) : Pv w g gA g5 A W.drew := h.grow (Below.refl _ _).drew
theorem Pv.alloc {w W : World} {g gA g5 : Nat} {A : Array Value} (h : Pv w g gA g5 A W) (ob : Obj) : Pv w g gA g5 A (W.alloc ob) := h.grow (below_alloc W ob)
theorem whole_drP {W : World} {g : Nat} {T : TypeId} {cs : Array Value} (h : Whole W g T cs) : Whole W.drew g T cs := h
theorem whole_itemsP {W : World} {g : Nat} {T : TypeId} {l : List Vt} {cs : Array Value} (h : Whole W g T cs) (hc : cs = (vtC l).toArray) : ∀ i (hi : i < l.length), ∃ b f, (some ⟨g, 0, none⟩ : Option Addr) = some ⟨b, f, none⟩ ∧ ItemAt W b (f + i * 4) l[i] := fun i hi => by
  subst hc
  obtain ⟨h0, h1, h2, h3⟩ := vtC_at l i hi
  have e : ∀ j u, (vtC l)[j]? = some u → W.cell? ⟨g, 0 + j, none⟩ = some u := fun j u hu => by
    rw [Nat.zero_add, h.at_ j]; simpa using hu
  exact ⟨g, 0, rfl, ⟨e _ _ h0, e _ _ h1, e _ _ h2, e _ _ h3⟩⟩
/-- the array of a tree alone -/
theorem alone_ok {W : World} {g : Nat} {T : TypeId} {x : Vt} (h : Whole W g T #[.int .i64 x.k, .string (st x.t), x.ks.v, x.row]) (hx : x.Ok W) : (Vt.mk 5 [] ⟨none, 0, []⟩ (some ⟨g, 0, none⟩) 1 [x]).Ok W :=
  .mk _ _ _ _ _ _ (by decide) (Nat.zero_le _) ⟨Nat.le_refl _, Nat.zero_le _, StrsIn.nil _ _⟩ (fun x hx => by cases hx) (Nat.le_refl _) (by decide) (whole_itemsP (l := [x]) h rfl) (fun i hi => by
    obtain rfl : i = 0 := by simp at hi; omega
    exact hx)
def MemAt (m : Vl) (gx : Nat) (W : World) : Prop := ∃ (k : Int) (t : Bs) (ko : Option Addr) (kc : Nat) (kl : List Bs) (o : Option Addr) (c : Nat) (is : List Vt), Whole W gx 25 #[.int .i64 k, .string (st t), .slice ko kl.length kc, .slice o is.length c] ∧ (Vt.mk k t ⟨ko, kc, kl⟩ o c is).Ok W ∧ (Vt.mk k t ⟨ko, kc, kl⟩ o c is).m = m
def HoldC (A B : Value) (V : World) : Prop := Calls Tryz.prog 19 #[A, B] V (BPost true V)
set_option maxHeartbeats 16000000 in
set_option maxRecDepth 1000000 in
theorem holds_any (x : Vt) (w : World) (hE : Env w) (hsm : SmallAt w) (hx : x.Ok w) :
    Calls Tryz.prog 7 #[x.v] w (BPost true w) := by
  have HSM := hq hsm
  have HE := hq hE
  have HOK := hq hx
  have HFX := hq (fun V (hV : Below w.heap.size w V) => few1_any x 200 V (hx.grow hV) (by decide))
  clear hE hsm hx
  obtain ⟨k, t, ⟨ko, kc, kl⟩, o, c, is⟩ := x
  have hkl : kl.length ≤ kc := HOK.o.hks.le
  have hkc : kc ≤ maxLen := HOK.o.hks.cp
  have hcl := HOK.o.hl
  have hcc := HOK.o.hc
  unfold maxLen at hkc hcc
  rw [Vt.v_mk'] at *
  have HP : Hq (∀ W', Below w.heap.size w W' → BPost true w (.returned (.bool true)) W') := hq (fun W' h => ⟨rfl, h⟩)
  generalize hPP : BPost true w = PP at *
  clear hPP
  have hb0 := below_alloc w (.cells #[.int .i64 k, .string (st t), .slice ko kl.length kc, .slice o is.length c] 25)
  have HW0 := hq (Whole.made w 25 #[.int .i64 k, .string (st t), .slice ko kl.length kc, .slice o is.length c])
  have HB0 := hq hb0
  clear hb0
  go_enter Tryz.func7, Tryz.ntmps7
  go_upto_region 1 with fail
  generalize w.heap.size = g at HW0
  generalize (w.alloc (.cells #[.int .i64 k, .string (st t), .slice ko kl.length kc, .slice o is.length c] 25)) = V0 at *
  have HSC := hq (HSM.o V0 HB0.o)
  clear HSM
  go_wp2_with fail
  refine HSC.o.mono ?_
  rintro e w1 ⟨rfl, hb1⟩
  have HB1 := hq (below_trans HB0.o hb1)
  have HW1 := hq (HW0.o.grow hb1)
  obtain ⟨a0, a1, a2, a3⟩ := four_cells HW1.o
  clear hb1 HSC HW0 HB0
  go_wp2_with fail
  refine (HFX.o w1 HB1.o).mono ?_
  rintro e w2 ⟨fx, rfl, hfx, hb2⟩
  have HB2 := hq (below_trans HB1.o hb2)
  have HW2 := hq (HW1.o.grow hb2)
  have HHX := hq hfx
  clear hb2 hfx HFX a0 a1 a2 a3 HW1 HB1
  obtain ⟨a0, a1, a2, a3⟩ := four_cells HW2.o
  cases fx with
  | false =>
    have HV := hq (HP.o w2 HB2.o)
    clear HP
    go_wp2_with fail
    exact HV.o
  | true =>
  have HF := hq (HHX.o rfl)
  clear HHX
  go_wp2_with fail
  refine (vRow_any _ _ _ _).mono ?_
  rintro e w3 ⟨rfl, hb3⟩
  have HQ : Hq (Pv w g w2.heap.size w3.heap.size #[.int .i64 k, .string (st t), .slice ko kl.length kc, .slice o is.length c] (w3.alloc (.cells #[.int .i64 5, .string ⟨#[]⟩, .slice none 0 0, .slice (some ⟨w2.heap.size, 0, none⟩) 1 1] 25))) :=
    hq ⟨(below_trans (below_trans HB2.o (below_alloc _ _)) hb3).trans ((below_alloc _ _).mono (below_trans (below_trans HB2.o (below_alloc _ _)) hb3).size), ((HW2.o.alloc _).grow hb3).alloc _, ((Whole.made _ _ _).grow hb3).alloc _, Whole.made _ _ _⟩
  clear hb3 HW2 HB2 a0 a1 a2 a3
  go_upto_region 6 with fail
  generalize (w3.alloc _) = W6 at *
  generalize w2.heap.size = gA at *
  generalize w3.heap.size = g5 at *
  clear w1 w2 w3
  have HFI : Hq (∀ V, Below w.heap.size w V → Fine (Vt.mk k t ⟨ko, kc, kl⟩ o c is) V) := hq (fun V hV => few_fine (HOK.o.grow hV) HF.o (by decide))
  have HXL : Hq ((Vt.mk k t ⟨ko, kc, kl⟩ o c is).m.size ≤ 200) := hq (Nat.le_trans (Vl.size_weight _) HF.o.wt)
  have HXD : Hq ((Vt.mk k t ⟨ko, kc, kl⟩ o c is).m.depth ≤ 200) := hq (Nat.le_trans (Vl.depth_size _) HXL.o)
  have HWM : Hq ((Vt.mk 5 [] ⟨none, 0, []⟩ (some ⟨gA, 0, none⟩) 1 [Vt.mk k t ⟨ko, kc, kl⟩ o c is]).m = .mk 5 [] [] [(Vt.mk k t ⟨ko, kc, kl⟩ o c is).m]) := hq (by rw [Vt.m_mk]; rfl)
  obtain ⟨s, hs⟩ : ∃ s, s = (Vt.mk k t ⟨ko, kc, kl⟩ o c is).m.size := ⟨_, rfl⟩
  obtain ⟨d, hd⟩ : ∃ d, d = (Vt.mk k t ⟨ko, kc, kl⟩ o c is).m.depth := ⟨_, rfl⟩
  obtain ⟨rx, hrx⟩ : ∃ r, r = rightM (Vt.mk k t ⟨ko, kc, kl⟩ o c is).m := ⟨_, rfl⟩
  have HSI : Hq (∀ (V : World) (B : Value) (n : Int), ((B = .agg #[.int .i64 5, .string ⟨#[]⟩, .slice none 0 0, .slice (some ⟨gA, 0, none⟩) 1 1] ∧ n = (s : Int) + 1) ∨ (B = .agg #[.int .i64 k, .string (st t), .slice ko kl.length kc, .slice o is.length c] ∧ n = (s : Int))) → Pv w g gA g5 #[.int .i64 k, .string (st t), .slice ko kl.length kc, .slice o is.length c] V → Calls Tryz.prog 25 #[B] V (IPost n V)) := hq (fun V B n h hP => by
    rcases h with ⟨rfl, rfl⟩ | ⟨rfl, rfl⟩
    · have := vsize_any _ V (alone_ok (x := Vt.mk k t ⟨ko, kc, kl⟩ o c is) hP.i (HOK.o.grow hP.lo)) (by rw [HWM.o]; simp only [Vl.size, Vl.sizes]; have := HXL.o; omega)
      rw [HWM.o] at this
      simp only [Vl.size, Vl.sizes] at this
      rw [show ((1 + ((Vt.mk k t ⟨ko, kc, kl⟩ o c is).m.size + 0) : Nat) : Int) = (s : Int) + 1 by rw [hs]; omega] at this
      exact this
    · have := vsize_any (Vt.mk k t ⟨ko, kc, kl⟩ o c is) V (HOK.o.grow hP.lo) (by have := HXL.o; omega)
      rw [hs]
      exact this)
  have HDI : Hq (∀ (V : World) (B : Value) (n : Int), ((B = .agg #[.int .i64 5, .string ⟨#[]⟩, .slice none 0 0, .slice (some ⟨gA, 0, none⟩) 1 1] ∧ n = (d : Int) + 1) ∨ (B = .agg #[.int .i64 k, .string (st t), .slice ko kl.length kc, .slice o is.length c] ∧ n = (d : Int))) → Pv w g gA g5 #[.int .i64 k, .string (st t), .slice ko kl.length kc, .slice o is.length c] V → Calls Tryz.prog 27 #[B] V (IPost n V)) := hq (fun V B n h hP => by
    rcases h with ⟨rfl, rfl⟩ | ⟨rfl, rfl⟩
    · have := vdepth_any _ V (alone_ok (x := Vt.mk k t ⟨ko, kc, kl⟩ o c is) hP.i (HOK.o.grow hP.lo)) (by rw [HWM.o]; simp only [Vl.size, Vl.sizes]; have := HXL.o; omega)
      rw [HWM.o] at this
      simp only [Vl.depth, Vl.depths] at this
      rw [show ((max (Vt.mk k t ⟨ko, kc, kl⟩ o c is).m.depth 0 + 1 : Nat) : Int) = (d : Int) + 1 by rw [hd]; omega] at this
      exact this
    · have := vdepth_any (Vt.mk k t ⟨ko, kc, kl⟩ o c is) V (HOK.o.grow hP.lo) (by have := HXL.o; omega)
      rw [hd]
      exact this)
  have HRI : Hq (∀ (V : World) (B : Value) (r : Bool), ((B = .agg #[.int .i64 5, .string ⟨#[]⟩, .slice none 0 0, .slice (some ⟨gA, 0, none⟩) 1 1] ∧ r = (rx && decide (d < 32))) ∨ (B = .agg #[.int .i64 k, .string (st t), .slice ko kl.length kc, .slice o is.length c] ∧ r = rx)) → Pv w g gA g5 #[.int .i64 k, .string (st t), .slice ko kl.length kc, .slice o is.length c] V → Calls Tryz.prog 21 #[B] V (BPost r V)) := hq (fun V B n h hP => by
    rcases h with ⟨rfl, rfl⟩ | ⟨rfl, rfl⟩
    · have hal : ((Vt.mk 5 [] ⟨none, 0, []⟩ (some ⟨gA, 0, none⟩) 1 [Vt.mk k t ⟨ko, kc, kl⟩ o c is]).m).All Lim := by
        rw [HWM.o]
        refine .mk _ _ _ _ ⟨Nat.zero_le _, fun k hk => by cases hk⟩ (fun y hy => ?_)
        rw [List.mem_singleton.1 hy]
        exact (HFI.o V hP.lo).lim
      have := vright_any _ V (HE.o.grow hP.lo) (alone_ok (x := Vt.mk k t ⟨ko, kc, kl⟩ o c is) hP.i (HOK.o.grow hP.lo)) hal (by rw [HWM.o]; simp only [Vl.size, Vl.sizes]; have := HXL.o; omega)
      rw [HWM.o, row_right _ HXL.o, ← hrx, ← hd] at this
      exact this
    · have := vright_any (Vt.mk k t ⟨ko, kc, kl⟩ o c is) V (HE.o.grow hP.lo) (HOK.o.grow hP.lo) (HFI.o V hP.lo).lim (by have := HXL.o; omega)
      rw [hrx]
      exact this)
  have HOP : Hq (∀ V, Below w.heap.size w V → Calls Tryz.prog 23 #[.agg #[.int .i64 k, .string (st t), .slice ko kl.length kc, .slice o is.length c]] V (BPost (openM (Vt.mk k t ⟨ko, kc, kl⟩ o c is).m) V)) := hq (fun V hV => open_any (Vt.mk k t ⟨ko, kc, kl⟩ o c is) V (HE.o.grow hV) (HOK.o.grow hV) (HFI.o V hV).lim (by have := HXL.o; omega))
  have HGT : Hq (∀ V key, Below w.heap.size w V → Calls Tryz.prog 17 #[.agg #[.int .i64 k, .string (st t), .slice ko kl.length kc, .slice o is.length c], .string (st key)] V (GetPost (getM (Vt.mk k t ⟨ko, kc, kl⟩ o c is).m key) V)) := hq (fun V key hV => vGet_any (Vt.mk k t ⟨ko, kc, kl⟩ o c is) key V (HE.o.grow hV) (HFI.o V hV))
  have HGN : Hq (¬ (openM (Vt.mk k t ⟨ko, kc, kl⟩ o c is).m = true ∧ k = 6) → getM (Vt.mk k t ⟨ko, kc, kl⟩ o c is).m [97] = none) := hq (fun h => by
    unfold getM
    rw [if_neg]
    intro h2
    exact h ⟨h2.1, by have := h2.2; rw [Vt.m_mk] at this; exact this⟩)
  have HGS : Hq (openM (Vt.mk k t ⟨ko, kc, kl⟩ o c is).m = true → k = 6 → kl.length = is.length ∧ ∀ j (hj : j < kl.length) (hi : j < is.length), getM (Vt.mk k t ⟨ko, kc, kl⟩ o c is).m kl[j] = some is[j].m) := hq (fun ho h6 => by
    have hg := (openM_good ho).1
    rw [Vt.m_mk] at hg
    obtain ⟨h1, _, h2⟩ := hg.obj h6
    rw [List.length_map] at h1
    refine ⟨h1, fun j hj hi => ?_⟩
    unfold getM
    have e : ((Vt.mk k t ⟨ko, kc, kl⟩ o c is).m).ks = kl := by rw [Vt.m_mk]; rfl
    have e2 : ((Vt.mk k t ⟨ko, kc, kl⟩ o c is).m).is = is.map Vt.m := by rw [Vt.m_mk]; rfl
    rw [if_pos ⟨ho, by rw [Vt.m_mk]; exact h6⟩, e, ixOf_at h2 j hj]
    simp only
    rw [e2]
    simp [hi])
  have hs200 : s ≤ 200 := by rw [hs]; exact HXL.o
  have hd200 : d ≤ 200 := by rw [hd]; exact HXD.o
  have HRG : Hq ((Vt.mk k t ⟨ko, kc, kl⟩ o c is).m.All Vl.Rng) := hq HOK.o.rng
  clear hs hd hrx HWM HXL HXD HF HE
  generalize (Vt.mk k t ⟨ko, kc, kl⟩ o c is).m = X at *
  generalize openM X = ox at *
  have hT1 := HQ.o
  clear HQ
  go_cut [45] from 20 to 44 (fun a wx => a = .bool false ∧ Hq (Pv w g gA g5 #[.int .i64 k, .string (st t), .slice ko kl.length kc, .slice o is.length c] wx))
  case first =>
    clear HP HOP HGT HGN HGS HRG HOK HFI
    have e1 : IntKind.i64.wrap ((s : Int) + 1) = (s : Int) + 1 := IntWalk.i64_in _ (by omega)
    have e2 : IntKind.i64.wrap ((d : Int) + 1) = (d : Int) + 1 := IntWalk.i64_in _ (by omega)
    have e3 : (((s : Int) + 1) != ((s : Int) + 1)) = false := by rw [bne, beq_self_eq_true]; rfl
    have e4 : (((d : Int) + 1) != ((d : Int) + 1)) = false := by rw [bne, beq_self_eq_true]; rfl
    have hcs : (rx = true ∧ decide ((d : Int) < 32) = true ∧ (rx && decide (d < 32)) = true) ∨ (rx = true ∧ decide ((d : Int) < 32) = false ∧ (rx && decide (d < 32)) = false) ∨ (rx = false ∧ (rx && decide (d < 32)) = false) := by
      cases rx with
      | false => exact .inr (.inr ⟨rfl, rfl⟩)
      | true =>
        by_cases h : d < 32
        · exact .inl ⟨rfl, decide_eq_true (by omega), by simp [h]⟩
        · exact .inr (.inl ⟨rfl, decide_eq_false (by omega), by simp [h]⟩)
    obtain ⟨ry, hry⟩ : ∃ r, r = (rx && decide (d < 32)) := ⟨_, rfl⟩
    rw [← hry] at HRI hcs
    clear hry hs200 hd200
    rcases hcs with ⟨rfl, h2, rfl⟩ | ⟨rfl, h2, rfl⟩ | ⟨rfl, rfl⟩
    case' inr.inr =>
      rw [show ({ dst := some 40, op := Op.load 25 (Operand.tmp 1), type := 25, pos := "law.go:144", after := #[{ on := 19, ground := Ground.guard }], guard := some (19, true) } : Oper) = { dst := some 40, op := opV (Op.load 25 (Operand.tmp 1)), type := 25, pos := "law.go:144", after := #[{ on := 19, ground := Ground.guard }], guard := some (19, true) } from rfl]
      rw [show (Op.binOp BinOp.lss 3 (Operand.tmp 41) (Operand.const (.int .i64 32)) 3) = opV (Op.binOp BinOp.lss 3 (Operand.tmp 41) (Operand.const (.int .i64 32)) 3) from rfl]
    all_goals
      first | (go_region_held3 (fun W => Pv w g gA g5 #[.int .i64 k, .string (st t), .slice ko kl.length kc, .slice o is.length c] W ∧ (W.cell? ⟨g, 0, none⟩ = some (.int .i64 k) ∧ W.cell? ⟨g, 1, none⟩ = some (.string (st t)) ∧ W.cell? ⟨g, 2, none⟩ = some (.slice ko kl.length kc) ∧ W.cell? ⟨g, 3, none⟩ = some (.slice o is.length c)) ∧ (W.cell? ⟨g5, 0, none⟩ = some (.int .i64 5) ∧ W.cell? ⟨g5, 1, none⟩ = some (.string ⟨#[]⟩) ∧ W.cell? ⟨g5, 2, none⟩ = some (.slice none 0 0) ∧ W.cell? ⟨g5, 3, none⟩ = some (.slice (some ⟨gA, 0, none⟩) 1 1))) ((refine (fun h : Pv w g gA g5 #[.int .i64 k, .string (st t), .slice ko kl.length kc, .slice o is.length c] _ => ⟨h, four_cells h.b, four_cells h.r⟩) ?_; first | exact hT1 | exact hT1.drew | exact hT2 | exact hT2.drew)) (first
        | (go_at_call 25; (with_reducible refine (HSI.o _ _ _ (by first | exact .inl ⟨rfl, rfl⟩ | exact .inr ⟨rfl, rfl⟩) (And.left (by assumption))).mono ?_); rintro e v ⟨rfl, hb2⟩; have hT2 : Pv w g gA g5 #[.int .i64 k, .string (st t), .slice ko kl.length kc, .slice o is.length c] v := Pv.grow (And.left (by assumption)) hb2)
        | (go_at_call 27; (with_reducible refine (HDI.o _ _ _ (by first | exact .inl ⟨rfl, rfl⟩ | exact .inr ⟨rfl, rfl⟩) (And.left (by assumption))).mono ?_); rintro e v ⟨rfl, hb2⟩; have hT2 : Pv w g gA g5 #[.int .i64 k, .string (st t), .slice ko kl.length kc, .slice o is.length c] v := Pv.grow (And.left (by assumption)) hb2)
        | (go_at_call 21; (with_reducible refine (HRI.o _ _ _ (by first | exact .inl ⟨rfl, rfl⟩ | exact .inr ⟨rfl, rfl⟩) (And.left (by assumption))).mono ?_); rintro e v ⟨rfl, hb2⟩; have hT2 : Pv w g gA g5 #[.int .i64 k, .string (st t), .slice ko kl.length kc, .slice o is.length c] v := Pv.grow (And.left (by assumption)) hb2))) | fail
      go_wp2_with fail
      go_meet
      exact ⟨rfl, hq hT2⟩
  case rest =>
    obtain ⟨rfl, HT⟩ := hcut
    obtain ⟨a0, a1, a2, a3⟩ := four_cells HT.o.b
    clear hT1 HSI HDI HRI hs200 hd200 HFI
    go_wp2_with fail
    refine (HOP.o wc HT.o.lo).mono ?_
    rintro e w7 ⟨rfl, hb7⟩
    have HT7 := hq (HT.o.grow hb7)
    clear hb7 a0 a1 a2 a3 HT HOP
    obtain ⟨a0, a1, a2, a3⟩ := four_cells HT7.o.b
    by_cases hop : ox = true ∧ k = 6
    case neg =>
      have hcs : ox = false ∨ (ox = true ∧ (k != 6) = true) := by
        cases ox with
        | false => exact .inl rfl
        | true => exact .inr ⟨rfl, by simpa using hop⟩
      have HGA : Hq (∀ V, Below w.heap.size w V → Calls Tryz.prog 17 #[.agg #[.int .i64 k, .string (st t), .slice ko kl.length kc, .slice o is.length c], .string ⟨#[97]⟩] V (GetPost none V)) := hq (fun V hV => by
        have := HGT.o V [97] hV
        rw [HGN.o hop] at this
        exact this)
      clear hop HGT HGN HGS HOK
      rcases hcs with rfl | ⟨rfl, hk6⟩ <;>
      ( go_wp2_with fail
        refine (HGA.o w7 HT7.o.lo).mono ?_
        rintro e w8 ⟨⟨k', t', ⟨ko', kc', kl'⟩, o', c', is'⟩, rfl, _, _, hb8⟩
        have HB8 := hq (below_trans HT7.o.lo hb8)
        have HV := hq (HP.o _ (HB8.o.trans ((below_alloc w8 (.cells #[.int .i64 k', .string (st t'), .slice ko' kl'.length kc', .slice o' is'.length c'] 25)).mono HB8.o.size)))
        obtain ⟨a0, a1, a2, a3⟩ := four_cells (HT7.o.grow hb8).b
        clear hb8 HT7 HGA HP
        rw [Vt.v_mk']
        simp only [Option.isSome]
        go_wp2_with fail
        exact HV.o )
    obtain ⟨rfl, rfl⟩ := hop
    obtain ⟨hln, hget⟩ := HGS.o rfl rfl
    have hl1 : kl.length ≤ is.length := by omega
    have HGJ := hq hget
    clear hln hget HGS HGN
    go_wp2_with fail
    clear a0 a1 a2 a3
    go_loopw [8, 9, 10] (fun i _ _ wr => ∃ j : Nat, j ≤ kl.length ∧ i = .int .i64 (j : Int) ∧ Hq (Pv w g gA g5 #[.int .i64 6, .string (st t), .slice ko kl.length kc, .slice o is.length c] wr)) (fun i _ _ _ => kl.length - (intOf i).toNat)
    case atStart => exact ⟨0, Nat.zero_le _, rfl, HT7⟩
    case round =>
      obtain ⟨j, hj, rfl, HR⟩ := hrel
      obtain ⟨a0, a1, a2, a3⟩ := four_cells HR.o.b
      by_cases h : j < kl.length
      · have hzj : (j : Int) < (kl.length : Int) := by omega
        have hji : j < is.length := by omega
        have hzi : (j : Int) < (is.length : Int) := by omega
        have HMJ := hq (HGJ.o j h hji)
        have HIK := hq (HOK.o.item j hji)
        obtain ⟨b, f, ho, i0⟩ := HOK.o.hks.rd j h
        obtain ⟨b2, f2, ho2, hit⟩ := HOK.o.at_ j hji
        simp only at ho i0
        have HI0 := hq i0
        have HIT := hq hit
        have HCG := hq (fun V (hV : Below w.heap.size w V) => HGT.o V kl[j] hV)
        clear i0 hit
        generalize kl[j] = key at *
        generalize is[j] = it at *
        have HKY : Hq (∀ V, Below wr.heap.size wr V → V.cell? ⟨b, f + j, none⟩ = some (.string (st key))) := hq (fun V hV => by
          have hb := below_trans HR.o.lo hV
          exact (hb.cell (p := ⟨b, f + j, none⟩) (cell_blk HI0.o)).trans HI0.o)
        have HCJ : Hq (∀ V, Below wr.heap.size wr V → Calls Tryz.prog 17 #[.agg #[.int .i64 6, .string (st t), .slice ko kl.length kc, .slice o is.length c], .string (st key)] V (GetPost (some it.m) V)) := hq (fun V hV => by
          have := HCG.o V (below_trans HR.o.lo hV)
          rw [HMJ.o] at this
          exact this)
        clear HGT HGJ HCG HMJ a0 a1 a2 a3
        subst ho ho2
        have hT1 : Below wr.heap.size wr wr := Below.refl _ _
        obtain ⟨a0, a1, a2, a3⟩ := four_cells HR.o.b
        go_upto_region 14 with fail
        clear a0 a1 a2 a3
        go_cut [9, 10] from 71 to 80 (fun a bb wx => ∃ gx : Nat, a = .pointer (some ⟨gx, 0, none⟩) ∧ bb = .bool true ∧ Hq (Pv w g gA g5 #[.int .i64 6, .string (st t), .slice (some ⟨b, f, none⟩) kl.length kc, .slice (some ⟨b2, f2, none⟩) is.length c] wx) ∧ Hq (MemAt it.m gx wx))
        case first =>
          clear HP HIT HI0
          have HRI := hq HIK.o.rng
          clear HIK
          go_region_held3 (fun W => Below wr.heap.size wr W ∧ (W.cell? ⟨g, 0, none⟩ = some (.int .i64 6) ∧ W.cell? ⟨g, 1, none⟩ = some (.string (st t)) ∧ W.cell? ⟨g, 2, none⟩ = some (.slice (some ⟨b, f, none⟩) kl.length kc) ∧ W.cell? ⟨g, 3, none⟩ = some (.slice (some ⟨b2, f2, none⟩) is.length c)) ∧ W.cell? ⟨b, f + j, none⟩ = some (.string (st key))) ((refine (fun h : Below wr.heap.size wr _ => ⟨h, four_cells (HR.o.grow h).b, HKY.o _ h⟩) ?_; first | exact hT1 | exact hT1.drew | exact hT2 | exact hT2.drew | exact below_trans hT2 (below_alloc _ _) | exact below_trans (And.left (by assumption)) (below_alloc _ _) | exact (below_trans (And.left (by assumption)) (below_alloc _ _)).drew | exact below_put4 hT2 hsz _ _ _ _)) ((go_at_call 17; (with_reducible refine (HCJ.o _ (And.left (by assumption))).mono ?_); rintro e v ⟨⟨k', t', ⟨ko', kc', kl'⟩, o', c', is'⟩, rfl, hown, hm, hb2⟩; rw [Vt.v_mk']; simp only [Option.isSome]; have hT2 : Below wr.heap.size wr v := below_trans (And.left (by assumption)) hb2; (try (have hz := Whole.grow (whole_drP (Whole.made wr 25 #[.int .i64 0, .string ⟨#[]⟩, .slice none 0 0, .slice none 0 0])) hb2; obtain ⟨z0, z1, z2, z3⟩ := four_cells hz; have z4 := hz.free 0; have z5 := hz.free 1; have z6 := hz.free 2; have z7 := hz.free 3; have hsz : wr.heap.size ≤ wr.heap.size := Nat.le_refl _))))
          all_goals
            have HOW := hq hown
            have HMM := hq hm
            have HT2 := hq hT2
          all_goals go_wp2_with fail
          all_goals go_meet
          · exact ⟨_, rfl, rfl, hq (HR.o.grow (below_trans HT2.o (below_alloc _ _))), hq ⟨k', t', ko', kc', kl', o', c', is', Whole.made _ _ _, (HOW.o.ok (by rw [HMM.o]; exact HRI.o)).grow (below_alloc _ _), HMM.o⟩⟩
          · refine ⟨_, rfl, rfl, hq (HR.o.grow (below_put4 HT2.o (Nat.le_refl _) _ _ _ _)), hq ⟨k', t', ko', kc', kl', o', c', is', (((hz.put 0 _).put 1 _).put 2 _).put 3 _, ?_, HMM.o⟩⟩
            exact (own_put4 HOW.o (show wr.heap.size < _ by rw [show ((wr.alloc (.cells #[.int .i64 0, .string ⟨#[]⟩, .slice none 0 0, .slice none 0 0] 25)).drew).heap.size = wr.heap.size + 1 from World.size_alloc _ _]; omega) _ _ _ _).ok (by rw [HMM.o]; exact HRI.o)
        case rest =>
          obtain ⟨gx, rfl, rfl, HPV, HMA⟩ := hcut
          obtain ⟨k', t', ko', kc', kl', o', c', is', hwx, hokx, hmx⟩ := HMA.o
          have HOX := hq (fun V (hV : Below wc.heap.size wc V) => And.intro (four_cells (HPV.o.grow hV).b).2.2.2 (And.intro (four_cells (hwx.grow hV)) (HIT.o.grow (below_trans HPV.o.lo hV))))
          have HEQ : Hq (∀ V, Below wc.heap.size wc V → Calls Tryz.prog 19 #[.agg #[.int .i64 k', .string (st t'), .slice ko' kl'.length kc', .slice o' is'.length c'], .agg #[.int .i64 it.k, .string (st it.t), it.ks.v, it.row]] V (BPost true V)) := hq (fun V hV => by
            refine (equal_any (Vt.mk k' t' ⟨ko', kc', kl'⟩ o' c' is') it V (hokx.grow hV) (HIK.o.grow (below_trans HPV.o.lo hV))).mono ?_
            rintro e V' ⟨v, rfl, hv, hb⟩
            obtain rfl : v = true := hv.2 hmx
            exact ⟨rfl, hb⟩)
          obtain ⟨c3, ⟨x0, x1, x2, x3⟩, i0, i1, i2, i3⟩ := HOX.o wc (Below.refl _ _)
          have hT1 : Below wc.heap.size wc wc := Below.refl _ _
          clear HIK HIT HI0 HKY HCJ HMA hwx hokx hmx HP hT1
          have hT1 : Below wc.heap.size wc wc := Below.refl _ _
          go_wp2_with fail
          go_region_held3 (fun W => Below wc.heap.size wc W ∧ W.cell? ⟨g, 3, none⟩ = some (.slice (some ⟨b2, f2, none⟩) is.length c) ∧ (W.cell? ⟨gx, 0, none⟩ = some (.int .i64 k') ∧ W.cell? ⟨gx, 1, none⟩ = some (.string (st t')) ∧ W.cell? ⟨gx, 2, none⟩ = some (.slice ko' kl'.length kc') ∧ W.cell? ⟨gx, 3, none⟩ = some (.slice o' is'.length c')) ∧ (W.cell? ⟨b2, f2 + j * 4, none⟩ = some (.int .i64 it.k) ∧ W.cell? ⟨b2, f2 + j * 4 + 1, none⟩ = some (.string (st it.t)) ∧ W.cell? ⟨b2, f2 + j * 4 + 2, none⟩ = some it.ks.v ∧ W.cell? ⟨b2, f2 + j * 4 + 3, none⟩ = some it.row))
            ((refine (fun h : Below wc.heap.size wc _ => ⟨h, (HOX.o _ h).1, (HOX.o _ h).2.1, (HOX.o _ h).2.2.c0, (HOX.o _ h).2.2.c1, (HOX.o _ h).2.2.c2, (HOX.o _ h).2.2.c3⟩) ?_; first | exact hT1 | exact hT1.drew | exact hT2 | exact hT2.drew))
            ((go_at_call 19; (with_reducible refine (HEQ.o _ (And.left (by assumption))).mono ?_); rintro e v ⟨rfl, hb2⟩; have hT2 : Below wc.heap.size wc v := below_trans (And.left (by assumption)) hb2))
          have HR2 := hq (HPV.o.grow hT2)
          clear hT2 HOX HEQ c3 x0 x1 x2 x3 i0 i1 i2 i3 hT1 HPV
          go_wp2_with fail
          go_roundw
          case rel => exact ⟨j + 1, h, int_eq (by omega), HR2⟩
          case measure => simp [intOf]; omega
      · have hzj : ¬ (j : Int) < (kl.length : Int) := by omega
        have HV := hq (HP.o wr HR.o.lo)
        clear HP HGJ HGT HOK
        go_wp2_with fail
        exact HV.o
end Go.Proofs.YtfibmmmbpfnccaaGreatDoor
