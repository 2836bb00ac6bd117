/-
  WALK: Compact of a tree, by how much it holds; the law PrintParts, over its small case.
-/
import Derived.Test.YtnlkokgekjlmmaaGreatDoorVtB
import Derived.Test.YtnlkokgekjlmmaaGreatDoorPrF
import Derived.Test.YtnlkokgekjlmmaaGreatDoorPrV
import Derived.Test.YtnlkokgekjlmmaaGreatDoorPrN
namespace Go.Proofs.YtnlkokgekjlmmaaGreatDoor
open Go.RowKit

theorem sum_memB {l : List Bs} {k : Bs} (h : k ∈ l) : k.length + 1 ≤ (l.map fun k => k.length + 1).sum := by
  induction l with
  | nil => cases h
  | cons y l ih =>
    rw [List.map_cons, List.sum_cons]
    rcases List.mem_cons.1 h with rfl | h
    · omega
    · have := ih h
      omega
theorem blks_mem {l : List Vl} {x : Vl} (h : x ∈ l) : x.blk ≤ Vl.blks l := by
  induction l with
  | nil => cases h
  | cons y l ih =>
    rw [Vl.blks]
    rcases List.mem_cons.1 h with rfl | h
    · omega
    · have := ih h
      omega
theorem blk_lim : ∀ v : Vl, v.blk ≤ 1048576 → v.All Lim := Vl.ind (fun k t ks is ih h => by
  rw [Vl.blk] at h
  refine .mk _ _ _ _ ⟨by show t.length ≤ 1048576; omega, fun x hx => by have := sum_memB (show x ∈ ks from hx); omega⟩ (fun x hx => ih x hx (by have := blks_mem hx; omega)))
theorem blk_size : ∀ v : Vl, 5 * v.size ≤ v.blk := Vl.ind (fun k t ks is ih => by
  have key : ∀ l : List Vl, (∀ x ∈ l, x ∈ is) → 5 * Vl.sizes l ≤ Vl.blks l := by
    intro l
    induction l with
    | nil => intro _; exact Nat.le_refl _
    | cons x l ihl =>
      intro h
      have h1 := ih x (h x (by simp))
      have h2 := ihl (fun y hy => h y (by simp [hy]))
      simp only [Vl.sizes, Vl.blks]
      omega
  have := key is (fun x hx => hx)
  simp only [Vl.size, Vl.blk]
  omega)
theorem zip_blk : ∀ (ks xs : List Bs), ((List.zipWith (memB false) ks xs).map List.length).sum + (List.zipWith (memB false) ks xs).length ≤ 8 * (ks.map fun k => k.length + 1).sum + (xs.map List.length).sum
  | [], xs => by simp
  | k :: ks, [] => by simp
  | k :: ks, x :: xs => by
    have h1 := zip_blk ks xs
    have h2 := qtB_len k
    have h3 : (memB false k x).length = (qtB k).length + 1 + x.length := by
      unfold memB
      simp
      omega
    simp only [List.zipWith_cons_cons, List.map_cons, List.sum_cons, List.length_cons]
    omega
theorem listB_noP (n lev : Nat) (o c : UInt8) (its : List Bs) : (listB false n lev o c its).length ≤ (its.map List.length).sum + its.length + 2 := by
  have h := commaB_len (lnB false n (lev + 1)) its
  have e : ∀ n lev, lnB false n lev = [] := fun _ _ => rfl
  unfold listB
  rw [e] at h
  rw [e, e]
  simp only [List.length_cons, List.length_append, List.length_nil, ite_self, Nat.zero_add, Nat.mul_one] at h ⊢
  omega
theorem prB_blk (n : Nat) : ∀ v : Vl, ∀ lev : Nat, (prB false n lev v).length + 1 ≤ 8 * v.blk := Vl.ind (P := fun v => ∀ lev : Nat, (prB false n lev v).length + 1 ≤ 8 * v.blk) (fun k t ks is ih lev => by
  rw [prB_mk]
  simp only [Vl.blk]
  have hq := qtB_len t
  have hit : ∀ l : List Vl, (∀ x ∈ l, x ∈ is) → ((l.map (prB false n (lev + 1))).map List.length).sum + l.length ≤ 8 * Vl.blks l := by
    intro l
    induction l with
    | nil => intro _; exact Nat.le_refl _
    | cons x l ihl =>
      intro h
      have h1 := ih x (h x (by simp)) (lev + 1)
      have h2 := ihl (fun y hy => h y (by simp [hy]))
      simp only [List.map_cons, List.sum_cons, List.length_cons, Vl.blks]
      omega
  have hi := hit is (fun x hx => hx)
  split
  · simp only [List.length_cons, List.length_nil]; omega
  · split
    · omega
    · split
      · have := listB_noP n lev 91 93 (is.map (prB false n (lev + 1)))
        rw [List.length_map] at this
        omega
      · split
        · have h1 := listB_noP n lev 123 125 (List.zipWith (memB false) ks (is.map (prB false n (lev + 1))))
          have h2 := zip_blk ks (is.map (prB false n (lev + 1)))
          omega
        · omega)
theorem good_prokL {v : Vl} : Good v → v.All Lim → v.All PrOk := Vl.ind (P := fun v => Good v → v.All Lim → v.All PrOk) (fun k t ks is ih hg hs => .mk k t ks is (by
    obtain ⟨h1, h2⟩ := hs.here
    simp only [Vl.t, Vl.ks] at h1 h2
    refine ⟨fun h6 => ?_, ?_, fun x hx => ?_⟩
    · simp only [Vl.k, Vl.ks, Vl.is] at h6 ⊢; exact (hg.obj h6).1
    · simp only [Vl.t]; omega
    · simp only [Vl.ks] at hx; have := h2 x hx; omega) (fun x hx => ih x hx (hg.items x hx) (hs.items x hx))) v
theorem new_valueB (x : Vt) (ls : Bool) (n lev : Nat) (w : World) (hE : Env w) (hx : Fine x w) (hz : (prB ls n lev x.m).length ≤ 140737488355328) (hn : n ≤ 8) (hv : lev ≤ 32) (hr : rightM x.m = true) :
    Calls Tryz.prog 50 #[.pointer (some ⟨w.heap.size, 0, none⟩), x.v, .int .i64 (lev : Int)] (w.alloc (.cells #[.pointer none, .slice none 0 0, .bool ls, .int .i64 (n : Int)] 82)) (NewP w.heap.size (prB ls n lev x.m) ls (n : Int) w) := by
  obtain ⟨hg, h1, h2, _⟩ := right_good hr
  have hb0 := below_alloc w (.cells #[.pointer none, .slice none 0 0, .bool ls, .int .i64 (n : Int)] 82)
  have hp : Prn w.heap.size w.heap.size [] ls (n : Int) (w.alloc (.cells #[.pointer none, .slice none 0 0, .bool ls, .int .i64 (n : Int)] 82)) := .inl ⟨Nat.le_refl _, .slice none 0 0, heap_alloc_new w _, World.ownsRow_nil _ _ _ _⟩
  refine (pvalue w.heap.size ls n (by omega) hE.tab x [] lev _ hx.ok (good_prokL hg hx.lim) hb0 hp (by omega) (by simpa using hz)).mono ?_
  rintro e w' ⟨rfl, h3⟩
  exact ⟨rfl, h3.1, hb0.trans h3.2.1⟩

set_option maxHeartbeats 8000000 in
set_option maxRecDepth 1000000 in
theorem pcompactB (x : Vt) (w : World) (hE : Env w) (hx : Fine x w) (hz : (prB false 0 0 x.m).length ≤ 140737488355328) : Calls Tryz.prog 16 #[x.v] w (TextP (compactM x.m) w) := by
  have HR := hq (fun W (h : Below w.heap.size w W) => vright_any x W (hE.grow h) (hx.ok.grow h) hx.lim (by have := hx.sz; omega))
  have HV := hq (fun (hr : rightM x.m = true) W (h : Below w.heap.size w W) => new_valueB x false 0 0 W (hE.grow h) (hx.grow h) hz (by omega) (by omega) hr)
  have HN := hq (fun (hr : rightM x.m = true) => prB_ne false 0 0 hr)
  have HCM : Hq (compactM x.m = if rightM x.m = true then (prB false 0 0 x.m, 0) else ([], 1)) := hq rfl
  have HP : Hq (∀ (r : Bs × Int) W', compactM x.m = r → Below w.heap.size w W' → TextP (compactM x.m) w (.returned (.tuple #[.string (st r.1), .int .i64 r.2])) W') := hq (fun r W' h1 h2 => by rw [h1]; exact ⟨rfl, h2⟩)
  generalize TextP (compactM x.m) w = PP at *
  generalize compactM x.m = CM at *
  generalize prB false 0 0 x.m = PB at *
  clear hE hx hz
  obtain ⟨k, t, ⟨ko, kc, kl⟩, o, c, is⟩ := x
  rw [Vt.v_mk'] at *
  generalize (Vt.mk k t ⟨ko, kc, kl⟩ o c is).m = X at *
  have hb0 := below_alloc w (.cells #[.int .i64 k, .string (st t), .slice ko kl.length kc, .slice o is.length c] 25)
  have HB0 := hq hb0
  have HW0 := hq (Whole.made w 25 #[.int .i64 k, .string (st t), .slice ko kl.length kc, .slice o is.length c])
  clear hb0
  obtain ⟨c0, c1, c2, c3⟩ := four_cells HW0.o
  go_enter Tryz.func16, Tryz.ntmps16
  go_wp2_with fail
  generalize w.heap.size = g at c0 c1 c2 c3 HW0
  generalize (w.alloc (.cells #[.int .i64 k, .string (st t), .slice ko kl.length kc, .slice o is.length c] 25)) = V0 at *
  refine (HR.o V0 HB0.o).mono ?_
  rintro e w1 ⟨rfl, hb1⟩
  have HB1 := hq (below_trans HB0.o hb1)
  have HW1 := hq (HW0.o.grow hb1)
  obtain ⟨d0, d1, d2, d3⟩ := four_cells HW1.o
  clear HR hb1 c0 c1 c2 c3
  by_cases hr : rightM X = true
  case neg =>
    have hf : rightM X = false := by simpa using hr
    have HU := hq (HP.o ([], 1) w1 (by rw [HCM.o, if_neg hr]) HB1.o)
    rw [hf]
    clear HP HCM HV HN hr hf
    go_wp2_with fail
    first
      | exact HU.o
      | (go_ret
         exact HU.o)
  case pos =>
    have HE : Hq (CM = (PB, 0)) := hq (by rw [HCM.o, if_pos hr])
    have HC := hq (HV.o hr w1 HB1.o)
    have HNE := hq (HN.o hr)
    rw [hr]
    clear HV HN HCM hr
    have h00 : ((0 : Nat) : Int) = 0 := rfl
    rw [h00] at HC
    obtain ⟨e0, e1, e2, e3⟩ := four_cells (HW1.o.alloc (.cells #[.pointer none, .slice none 0 0, .bool false, .int .i64 0] 82))
    clear h00
    go_wp2_with fail
    refine HC.o.mono ?_
    rintro e w2 ⟨rfl, h2, hb2⟩
    have HS := hq (pString w1.heap.size w1.heap.size PB false 0 w2 h2 HNE.o)
    have HQ := hq (fun W' => HP.o (PB, 0) W' HE.o)
    have HB2 := hq hb2
    clear HC HNE h2 hb2 HP HE d0 d1 d2 d3 e0 e1 e2 e3 HW1 HW0
    go_wp2_with fail
    refine HS.o.mono ?_
    rintro e w3 ⟨rfl, h3⟩
    have HU := hq (HQ.o w3 (below_trans HB1.o (HB2.o.trans h3)))
    clear HS HQ HB2 h3
    go_wp2_with fail
    first
      | exact HU.o
      | (go_ret
         exact HU.o)

theorem leaf_okP (k : Int) (t : Bs) (W : World) (hk : -9223372036854775808 ≤ k ∧ k ≤ 9223372036854775807) (ht : t.length ≤ maxLen) : (leafT k t).Ok W :=
  .mk _ _ _ _ _ _ hk ht ⟨Nat.le_refl _, Nat.zero_le _, StrsIn.nil _ _⟩ (fun x hx => by cases hx) (Nat.le_refl _) (Nat.zero_le _) (fun i hi => absurd hi (Nat.not_lt_zero i)) (fun i hi => absurd hi (Nat.not_lt_zero i))
theorem right_itemP {k : Int} {t : Bs} {ks : List Bs} {is : List Vl} {x : Vl} (h : rightM (.mk k t ks is) = true) (hx : x ∈ is) : rightM x = true := by
  unfold rightM at h ⊢
  rw [Bool.and_eq_true, Bool.and_eq_true] at h
  have h3 := of_decide_eq_true h.1
  have h4 := of_decide_eq_true h.2.1
  have h5 := h.2.2
  rw [Vl.allB, Bool.and_eq_true] at h5
  rw [Vl.size] at h3
  rw [Vl.depth] at h4
  have h1 := Vl.sizes_le x hx
  have h2 := Vl.depths_le x hx
  rw [Vl.allsB_iff.1 h5.2 x hx, decide_eq_true (show x.size ≤ 4096 by omega), decide_eq_true (show x.depth ≤ 32 by omega)]
  rfl
theorem right_keysP {t : Bs} {ks : List Bs} {is : List Vl} (h : rightM (.mk 6 t ks is) = true) : ks.length = is.length ∧ ∀ k ∈ ks, (valid (st k)).2 = true := by
  unfold rightM at h
  simp only [Bool.and_eq_true, Vl.allB] at h
  have hn := h.2.2.1.1
  rw [nodeM_mk, if_neg (by decide), if_pos rfl] at hn
  unfold membersM at hn
  simp only [Bool.and_eq_true, decide_eq_true_eq, List.all_eq_true] at hn
  exact ⟨hn.2.1, hn.2.2.2.1⟩
theorem leaf4_right {k : Bs} (h : (valid (st k)).2 = true) : compactM (.mk 4 k [] []) = (qtB k, 0) := by
  have hn : nodeM (.mk 4 k [] []) = true := by
    rw [nodeM_mk, if_neg (by decide), if_neg (by decide)]
    show (true && true && (valid (st k)).2) = true
    rw [h]; rfl
  have hr : rightM (.mk 4 k [] []) = true := by
    unfold rightM
    simp only [Vl.size, Vl.sizes, Vl.depth, Vl.depths, Vl.allB, Vl.allsB, hn]
    rfl
  unfold compactM
  rw [if_pos hr, prB_mk]
  rfl
theorem leaf4_pri {k : Bs} (h : k.length ≤ 1024) (W : World) : Pri (leafT 4 k) W := by
  refine ⟨⟨leaf_okP 4 k W (by decide) (Nat.le_trans h (by decide)), ?_, ?_⟩, ?_⟩ <;> rw [leafT_m]
  · exact .mk _ _ _ _ ⟨Nat.le_trans h (by decide), (fun x hx => by cases hx)⟩ (fun x hx => by cases hx)
  · show (1 : Nat) + 0 ≤ 1000000
    decide
  · exact .mk _ _ _ _ ⟨Nat.le_trans h (by decide), (fun x hx => by cases hx)⟩ (fun x hx => by cases hx)
theorem cell_ltQ {w : World} {a : Addr} {v : Value} (h : w.cell? a = some v) : a.block < w.heap.size := by
  by_cases hb : a.block < w.heap.size
  · exact hb
  · unfold World.cell? at h
    rw [Array.getElem?_eq_none (by omega)] at h
    cases h
theorem mk_oneQ (c : UInt8) : (⟨#[c]⟩ : ByteArray) = st [c] := rfl
theorem comma_leP (o c : UInt8) (its : List Bs) : (commaB (lnB false 0 1) its).length ≤ (listB false 0 0 o c its).length := by
  have e : lnB false 0 (0 + 1) = lnB false 0 1 := rfl
  unfold listB
  rw [e]
  simp only [List.length_cons, List.length_append]
  omega
set_option maxHeartbeats 16000000 in
set_option maxRecDepth 1000000 in
theorem pparts_law (x : Vt) (w : World) (hE : Env w) (hx : x.Ok w) (hbk : x.m.blk ≤ 1048576) (hsm : ∀ V, Below w.heap.size w V → Calls Tryz.prog 13 #[] V (BPost true V)) :
    Calls Tryz.prog 6 #[x.v] w (BPost true w) := by
  have HSM := hq hsm
  have HFX := hq (fun V (hV : Below w.heap.size w V) => few1_any x 300 V (hx.grow hV) (by decide))
  have HC1 := hq (fun V (hV : Below w.heap.size w V) => pcompactB x V (hE.grow hV) ⟨hx.grow hV, blk_lim x.m hbk, by have := blk_size x.m; omega⟩ (by have := prB_blk 0 x.m 0; omega))
  unfold TextP at HC1
  have HFI : Hq (∀ W', Below w.heap.size w W' → BPost true w (.returned (.bool true)) W') := hq (fun W' h => ⟨rfl, h⟩)
  have HOK := hq hx
  have HEV := hq (fun V (h : Below w.heap.size w V) => hE.grow h)
  generalize BPost true w = PP at *
  obtain ⟨k, t, ⟨ko, kc, kl⟩, o, c, is⟩ := x
  have hil := hx.hl
  have hic := hx.hc
  have hkl := hx.hks.le
  have hkc := hx.hks.cp
  unfold maxLen at hic hkc
  (try simp only at hkl hkc)
  clear hE hx hbk hsm
  rw [Vt.v_mk'] at HFX HC1 ⊢
  rw [Vt.m_mk] at HFX HC1
  simp only at HFX HC1
  have HB0 := hq (below_alloc w (.cells #[.int .i64 k, .string (st t), .slice ko kl.length kc, .slice o is.length c] 25))
  have HW0 := hq (Whole.made w 25 #[.int .i64 k, .string (st t), .slice ko kl.length kc, .slice o is.length c])
  go_enter Tryz.func6, Tryz.ntmps6
  go_upto_region 1 with fail
  generalize w.heap.size = g at HW0
  generalize (w.alloc (.cells #[.int .i64 k, .string (st t), .slice ko kl.length kc, .slice o is.length c] 25)) = V0 at *
  have hVC := hq (fun wr (hb : Below V0.heap.size V0 wr) => four_cells (HW0.o.grow hb))
  clear HW0
  go_wp2_with fail
  refine (HSM.o V0 HB0.o).mono ?_
  rintro e w1 ⟨rfl, hb⟩
  have HV1 := hq hb
  have HB1 := hq (below_trans HB0.o hb)
  clear hb HSM
  obtain ⟨a0, a1, a2, a3⟩ := hVC.o w1 HV1.o
  go_wp2_with fail
  refine (HFX.o w1 HB1.o).mono ?_
  rintro e w2 ⟨fx, rfl, hfx, hb⟩
  have HV2 := hq (below_trans HV1.o hb)
  have HB2 := hq (below_trans HB1.o hb)
  have HHX := hq hfx
  clear hb HV1 HB1 a0 a1 a2 a3 HFX hfx
  obtain ⟨a0, a1, a2, a3⟩ := hVC.o w2 HV2.o
  go_wp2_with fail
  refine (HC1.o w2 HB2.o).mono ?_
  rintro e w3 ⟨rfl, hb⟩
  have HV3 := hq (below_trans HV2.o hb)
  have HB3 := hq (below_trans HB2.o hb)
  clear hb HV2 HB2 a0 a1 a2 a3 HC1
  obtain ⟨a0, a1, a2, a3⟩ := hVC.o w3 HV3.o
  cases fx with
  | false =>
    have HV := hq (HFI.o w3 HB3.o)
    clear HFI HOK HEV
    go_wp2_with fail
    first | exact HV.o | (go_ret; exact HV.o)
  | true =>
  have HF := hq (HHX.o rfl)
  clear HHX
  cases hr : rightM (.mk k t kl (is.map Vt.m)) with
  | false =>
    have e1 : compactM (.mk k t kl (is.map Vt.m)) = ([], 1) := if_neg (by rw [hr]; decide)
    rw [e1]
    have HV := hq (HFI.o w3 HB3.o)
    clear HFI HOK HEV HF hr e1
    go_wp2_with fail
    first | exact HV.o | (go_ret; exact HV.o)
  | true =>
  have e1 : compactM (.mk k t kl (is.map Vt.m)) = (prB false 0 0 (.mk k t kl (is.map Vt.m)), 0) := if_pos hr
  have hlen := prB_len false 0 (by decide) _ HF.o.sh 0 (by have := HF.o.dp; omega)
  have hsz := Nat.le_trans (Vl.size_weight (.mk k t kl (is.map Vt.m))) HF.o.wt
  rw [e1]
  simp only
  clear e1
  -- the items
  have hit : ∀ (j : Nat) (hj : j < is.length) W, Below w.heap.size w W → Calls Tryz.prog 16 #[is[j].v] W fun e W' => e = .returned (.tuple #[.string (st (prB false 0 1 is[j].m)), .int .i64 0]) ∧ Below W.heap.size W W' := fun j hj W hW => by
    have hm : is[j].m ∈ is.map Vt.m := List.mem_map_of_mem (List.getElem_mem hj)
    have hri := right_itemP hr hm
    have hs := HF.o.sh.items _ hm
    have hz1 := Vl.sizes_le _ hm
    simp only [Vl.size] at hsz
    have h := pcompact is[j] W (HEV.o W hW) ⟨⟨(HOK.o.item j hj).grow hW, hs.mono (fun v hv => ⟨Nat.le_trans hv.1 (by decide), fun x hx => Nat.le_trans (hv.2 x hx) (by decide)⟩), by omega⟩, hs⟩
    unfold TextP at h
    rw [show compactM is[j].m = (prB false 0 0 is[j].m, 0) from if_pos hri, prB_lev 0 0 is[j].m 0 1] at h
    exact h
  have HIT := hq hit
  clear hit
  by_cases h5 : k = 5
  · subst h5
    have hPB : prB false 0 0 (.mk 5 t kl (is.map Vt.m)) = listB false 0 0 91 93 (is.map fun y => prB false 0 1 y.m) := by
      rw [prB_mk, if_neg (by decide), if_neg (by decide), if_pos rfl, List.map_map]
      rfl
    rw [hPB] at hlen ⊢
    have hcl := comma_leP 91 93 (is.map fun y => prB false 0 1 y.m)
    have hzl : (is.map fun y => prB false 0 1 y.m).length = is.length := List.length_map _
    have HTK : Hq (∀ (j : Nat) (hj : j < (is.map fun y => prB false 0 1 y.m).length), commaB (lnB false 0 1) ((is.map fun y => prB false 0 1 y.m).take (j + 1)) = commaB (lnB false 0 1) ((is.map fun y => prB false 0 1 y.m).take j) ++ (if j = 0 then [] else [44]) ++ lnB false 0 1 ++ (is.map fun y => prB false 0 1 y.m)[j]) := hq (fun j hj => commaB_take hj)
    have HUP : Hq (∀ j, (commaB (lnB false 0 1) ((is.map fun y => prB false 0 1 y.m).take j)).length ≤ 9000000) := hq (fun j => Nat.le_trans (commaB_upto _ _ j) (by omega))
    have HAL : Hq (commaB (lnB false 0 1) ((is.map fun y => prB false 0 1 y.m).take is.length) = commaB (lnB false 0 1) (is.map fun y => prB false 0 1 y.m)) := hq (by rw [← hzl, List.take_length])
    have HLS : Hq (listB false 0 0 91 93 (is.map fun y => prB false 0 1 y.m) = 91 :: (commaB (lnB false 0 1) (is.map fun y => prB false 0 1 y.m) ++ [93])) := hq (by
      unfold listB
      simp [lnB])
    have HZL := hq hzl
    have HLN := hq hlen
    have HIA : Hq (∀ (j : Nat) (hj : j < (is.map fun y => prB false 0 1 y.m).length) (hji : j < is.length), (is.map fun y => prB false 0 1 y.m)[j] = prB false 0 1 is[j].m) := hq (fun j hj _ => by rw [List.getElem_map])
    clear hcl hPB hr hsz HF HEV hlen hzl
    generalize (is.map fun y => prB false 0 1 y.m) = its at *
    go_wp2_with fail
    go_loopw [7, 8, 9, 10, 11, 12] (fun a u _ _ _ _ wr => ∃ (j : Nat) (S : ByteArray), j ≤ is.length ∧ a = .string S ∧ u = .int .i64 (j : Int) ∧ S.size ≤ 9000000 ∧ Hq (S = st (commaB (lnB false 0 1) (its.take j))) ∧ Hq (Below V0.heap.size V0 wr)) (fun _ u _ _ _ _ _ => is.length - (intOf u).toNat)
    case atStart => exact ⟨0, ⟨#[]⟩, Nat.zero_le _, rfl, rfl, by decide, hq rfl, HV3⟩
    case round =>
      obtain ⟨j, S, hj, rfl, rfl, hS, HS, HVr⟩ := hrel
      clear a0 a1 a2 a3 HV3 HB3
      have HBr := hq (below_trans HB0.o HVr.o)
      obtain ⟨c0, c1, c2, c3⟩ := hVC.o wr HVr.o
      by_cases h : j < is.length
      · have hz : (j : Int) < (is.length : Int) := by omega
        have hjz0 : j < its.length := by have := HZL.o; omega
        obtain ⟨bi, f, ho, hit⟩ := HOK.o.at_ j h
        have hCG : Hq (∀ W, Below w.heap.size w W → W.cell? ⟨bi, f + j * 4, none⟩ = some (.int .i64 is[j].k) ∧ W.cell? ⟨bi, f + j * 4 + 1, none⟩ = some (.string (st is[j].t)) ∧ W.cell? ⟨bi, f + j * 4 + 2, none⟩ = some is[j].ks.v ∧ W.cell? ⟨bi, f + j * 4 + 3, none⟩ = some is[j].row) := hq (fun W hW => by
          obtain ⟨a0, a1, a2, a3⟩ := hit.grow hW
          exact ⟨a0, a1, a2, a3⟩)
        have HIX := hq (HIT.o j h)
        have HTJ := hq (HTK.o j hjz0)
        have HU1 := HUP.o (j + 1)
        have hSU : (st (commaB (lnB false 0 1) (its.take (j + 1)))).size ≤ 9000000 := by rw [st_size]; exact HU1
        have HSU := hq hSU
        rw [HIA.o j hjz0 h] at HTJ
        have hXl : (st (prB false 0 1 is[j].m)).size ≤ 9000000 := by
          have e := congrArg List.length HTJ.o
          simp only [List.length_append] at e
          rw [st_size]
          omega
        generalize hX1 : prB false 0 1 is[j].m = X1 at *
        clear hX1 HIT HTK HUP HAL HOK HIA hit hSU HU1 hjz0
        generalize is[j] = x at *
        subst ho
        by_cases hj0 : j = 0
        · have HNX : Hq ((S ++ st X1) = st (commaB (lnB false 0 1) (its.take (j + 1)))) := hq (by
            rw [HTJ.o, if_pos hj0, HS.o]
            simp only [cat_st]
            simp [lnB])
          have hg : ¬ (0 < (j : Int)) := by omega
          clear hj0 HTJ
          obtain ⟨i0, i1, i2, i3⟩ := hCG.o wr HBr.o
          go_wp2_with fail
          refine (HIX.o _ HBr.o).mono ?_
          rintro e v3 ⟨rfl, hv3⟩
          have HV6 := hq (below_trans HVr.o hv3)
          generalize st X1 = X2 at *
          clear hv3 c0 c1 c2 c3 i0 i1 i2 i3
          go_wp2_with fail
          go_roundw
          case rel => exact ⟨j + 1, _, h, rfl, int_eq (by omega), by rw [HNX.o]; exact HSU.o, HNX, HV6⟩
          case measure => (try simp [intOf]); omega
        · have HNX : Hq (((S ++ ⟨#[44]⟩) ++ st X1) = st (commaB (lnB false 0 1) (its.take (j + 1)))) := hq (by
            rw [HTJ.o, if_neg hj0, HS.o]
            simp only [mk_oneQ, cat_st]
            simp [lnB])
          have hg : (0 < (j : Int)) := by omega
          clear hj0 HTJ
          obtain ⟨i0, i1, i2, i3⟩ := hCG.o wr HBr.o
          go_wp2_with fail
          refine (HIX.o _ HBr.o).mono ?_
          rintro e v3 ⟨rfl, hv3⟩
          have HV6 := hq (below_trans HVr.o hv3)
          generalize st X1 = X2 at *
          clear hv3 c0 c1 c2 c3 i0 i1 i2 i3
          go_wp2_with fail
          go_roundw
          case rel => exact ⟨j + 1, _, h, rfl, int_eq (by omega), by rw [HNX.o]; exact HSU.o, HNX, HV6⟩
          case measure => (try simp [intOf]); omega
      · have hz : ¬ (j : Int) < (is.length : Int) := by omega
        have hjl : j = is.length := by omega
        have HFN : Hq ((⟨#[91]⟩ ++ S) ++ ⟨#[93]⟩ = st (listB false 0 0 91 93 its)) := hq (by
          rw [HS.o, hjl, HAL.o, HLS.o]
          simp only [mk_oneQ, cat_st]
          simp)
        have HFL : Hq ((listB false 0 0 91 93 its == ((⟨#[91]⟩ ++ S) ++ ⟨#[93]⟩).data.toList) = true) := hq (by rw [HFN.o, st_list]; exact beq_self_eq_true _)
        have HV := hq (HFI.o wr HBr.o)
        clear hjl HIT HTK HUP HAL HOK HIA HFI HLS HLN
        generalize listB false 0 0 91 93 its = PB at *
        have hfl := HFL.o
        have hfn := HFN.o
        go_wp2_with fail
        first | exact HV.o | (go_ret; exact HV.o) | trace_state
  by_cases h6 : k = 6
  · subst h6
    obtain ⟨hkn, hkv⟩ := right_keysP hr
    rw [List.length_map] at hkn
    have hPB : prB false 0 0 (.mk 6 t kl (is.map Vt.m)) = listB false 0 0 123 125 (List.zipWith (memB false) kl (is.map fun y => prB false 0 1 y.m)) := by
      rw [prB_mk, if_neg (by decide), if_neg (by decide), if_neg (by decide), if_pos rfl, List.map_map]
      rfl
    have hsh := HF.o.sh.here.2
    simp only [Vl.ks] at hsh
    rw [hPB] at hlen ⊢
    have hcl := comma_leP 123 125 (List.zipWith (memB false) kl (is.map fun y => prB false 0 1 y.m))
    have hzl : (List.zipWith (memB false) kl (is.map fun y => prB false 0 1 y.m)).length = is.length := by rw [List.length_zipWith, List.length_map]; omega
    have hkx : ∀ (j : Nat) (hj : j < kl.length) W, Below w.heap.size w W → Calls Tryz.prog 16 #[.agg #[.int .i64 4, .string (st kl[j]), .slice none 0 0, .slice none 0 0]] W fun e W' => e = .returned (.tuple #[.string (st (qtB kl[j])), .int .i64 0]) ∧ Below W.heap.size W W' := fun j hj W hW => by
      have h := pcompact (leafT 4 kl[j]) W (HEV.o W hW) (leaf4_pri (hsh _ (List.getElem_mem hj)) W)
      unfold TextP at h
      rw [leafT_m, leaf4_right (hkv _ (List.getElem_mem hj)), leafT_v] at h
      exact h
    have HKX := hq hkx
    have HSH := hq hsh
    clear hkx hkv hsh
    have HTK : Hq (∀ (j : Nat) (hj : j < (List.zipWith (memB false) kl (is.map fun y => prB false 0 1 y.m)).length), commaB (lnB false 0 1) ((List.zipWith (memB false) kl (is.map fun y => prB false 0 1 y.m)).take (j + 1)) = commaB (lnB false 0 1) ((List.zipWith (memB false) kl (is.map fun y => prB false 0 1 y.m)).take j) ++ (if j = 0 then [] else [44]) ++ lnB false 0 1 ++ (List.zipWith (memB false) kl (is.map fun y => prB false 0 1 y.m))[j]) := hq (fun j hj => commaB_take hj)
    have HUP : Hq (∀ j, (commaB (lnB false 0 1) ((List.zipWith (memB false) kl (is.map fun y => prB false 0 1 y.m)).take j)).length ≤ 9000000) := hq (fun j => Nat.le_trans (commaB_upto _ _ j) (by omega))
    have HAL : Hq (commaB (lnB false 0 1) ((List.zipWith (memB false) kl (is.map fun y => prB false 0 1 y.m)).take is.length) = commaB (lnB false 0 1) (List.zipWith (memB false) kl (is.map fun y => prB false 0 1 y.m))) := hq (by rw [← hzl, List.take_length])
    have HLS : Hq (listB false 0 0 123 125 (List.zipWith (memB false) kl (is.map fun y => prB false 0 1 y.m)) = 123 :: (commaB (lnB false 0 1) (List.zipWith (memB false) kl (is.map fun y => prB false 0 1 y.m)) ++ [125])) := hq (by
      unfold listB
      simp [lnB])
    have HZL := hq hzl
    have HLN := hq hlen
    have HIA : Hq (∀ (j : Nat) (hj : j < (List.zipWith (memB false) kl (is.map fun y => prB false 0 1 y.m)).length) (hjk : j < kl.length) (hji : j < is.length), (List.zipWith (memB false) kl (is.map fun y => prB false 0 1 y.m))[j] = qtB kl[j] ++ [58] ++ prB false 0 1 is[j].m) := hq (fun j hj _ _ => by
      rw [List.getElem_zipWith, List.getElem_map]
      rfl)
    have HKN := hq hkn
    clear hcl hPB hr hsz HF HEV hkn hlen hzl
    generalize (List.zipWith (memB false) kl (is.map fun y => prB false 0 1 y.m)) = its at *
    go_wp2_with fail
    go_loopw [7, 8, 9, 10, 11, 12] (fun a u _ _ _ _ wr => ∃ (j : Nat) (S : ByteArray), j ≤ is.length ∧ a = .string S ∧ u = .int .i64 (j : Int) ∧ S.size ≤ 9000000 ∧ Hq (S = st (commaB (lnB false 0 1) (its.take j))) ∧ Hq (Below V0.heap.size V0 wr)) (fun _ u _ _ _ _ _ => is.length - (intOf u).toNat)
    case atStart => exact ⟨0, ⟨#[]⟩, Nat.zero_le _, rfl, rfl, by decide, hq rfl, HV3⟩
    case round =>
      obtain ⟨j, S, hj, rfl, rfl, hS, HS, HVr⟩ := hrel
      clear a0 a1 a2 a3 HV3 HB3
      have HBr := hq (below_trans HB0.o HVr.o)
      obtain ⟨c0, c1, c2, c3⟩ := hVC.o wr HVr.o
      by_cases h : j < is.length
      · have hz : (j : Int) < (is.length : Int) := by omega
        have hjz0 : j < its.length := by have := HZL.o; omega
        obtain ⟨bi, f, ho, hit⟩ := HOK.o.at_ j h
        have hCG : Hq (∀ W, Below w.heap.size w W → W.cell? ⟨bi, f + j * 4, none⟩ = some (.int .i64 is[j].k) ∧ W.cell? ⟨bi, f + j * 4 + 1, none⟩ = some (.string (st is[j].t)) ∧ W.cell? ⟨bi, f + j * 4 + 2, none⟩ = some is[j].ks.v ∧ W.cell? ⟨bi, f + j * 4 + 3, none⟩ = some is[j].row) := hq (fun W hW => by
          obtain ⟨a0, a1, a2, a3⟩ := hit.grow hW
          exact ⟨a0, a1, a2, a3⟩)
        have HIX := hq (HIT.o j h)
        have HTJ := hq (HTK.o j hjz0)
        have HU1 := HUP.o (j + 1)
        have hSU : (st (commaB (lnB false 0 1) (its.take (j + 1)))).size ≤ 9000000 := by rw [st_size]; exact HU1
        have HSU := hq hSU
        have hjk : j < kl.length := by have := HKN.o; omega
        have hjkz : (j : Int) < (kl.length : Int) := by omega
        rw [HIA.o j hjz0 hjk h] at HTJ
        obtain ⟨bk, fk, hko, hkt⟩ := HOK.o.hks.rd j hjk
        have hKG : Hq (∀ W, Below w.heap.size w W → W.cell? ⟨bk, fk + j, none⟩ = some (.string (st kl[j]))) := hq (fun W hW => ((hW).cell (cell_ltQ hkt)).trans hkt)
        have HQK := hq (HKX.o j hjk)
        have HOF := hq (fun V => vOf_any kl[j] V)
        simp only at hko
        subst hko
        have hql : (st (qtB kl[j])).size ≤ 10000 := by
          have h1 := qtB_len kl[j]
          have h2 := HSH.o _ (List.getElem_mem hjk)
          rw [st_size]
          omega
        have hXl : (st (prB false 0 1 is[j].m)).size ≤ 9000000 := by
          have e := congrArg List.length HTJ.o
          simp only [List.length_append] at e
          rw [st_size]
          omega
        clear hkt
        generalize kl[j] = kj at *
        generalize hX1 : prB false 0 1 is[j].m = X1 at *
        clear hX1 HIT HTK HUP HAL HOK HIA hit hSU HU1 hjz0 HKX HKN HSH
        generalize is[j] = x at *
        subst ho
        generalize hQ1 : qtB kj = Q1 at *
        clear hQ1
        by_cases hj0 : j = 0
        · have HNX : Hq ((((S ++ st Q1) ++ ⟨#[58]⟩) ++ st X1) = st (commaB (lnB false 0 1) (its.take (j + 1)))) := hq (by
            rw [HTJ.o, if_pos hj0, HS.o]
            simp only [mk_oneQ, cat_st]
            simp [lnB])
          have hg : ¬ (0 < (j : Int)) := by omega
          clear hj0 HTJ
          obtain ⟨i0, i1, i2, i3⟩ := hCG.o wr HBr.o
          have k0 := hKG.o wr HBr.o
          go_wp2_with fail
          refine (HOF.o _).mono ?_
          rintro e v1 ⟨rfl, hv1⟩
          have HV4 := hq (below_trans HVr.o hv1)
          have HB4 := hq (below_trans HBr.o hv1)
          rw [leafT_v]
          clear hv1 c0 c1 c2 c3 i0 i1 i2 i3 k0
          go_wp2_with fail
          refine (HQK.o _ HB4.o).mono ?_
          rintro e v2 ⟨rfl, hv2⟩
          have HV5 := hq (below_trans HV4.o hv2)
          have HB5 := hq (below_trans HB4.o hv2)
          clear hv2 HV4 HB4
          generalize st Q1 = Q2 at *
          obtain ⟨c0, c1, c2, c3⟩ := hVC.o v2 HV5.o
          obtain ⟨i0, i1, i2, i3⟩ := hCG.o v2 HB5.o
          go_wp2_with fail
          refine (HIX.o _ HB5.o).mono ?_
          rintro e v3 ⟨rfl, hv3⟩
          have HV6 := hq (below_trans HV5.o hv3)
          generalize st X1 = X2 at *
          clear hv3 c0 c1 c2 c3 i0 i1 i2 i3
          go_wp2_with fail
          go_roundw
          case rel => exact ⟨j + 1, _, h, rfl, int_eq (by omega), by rw [HNX.o]; exact HSU.o, HNX, HV6⟩
          case measure => (try simp [intOf]); omega
        · have HNX : Hq (((((S ++ ⟨#[44]⟩) ++ st Q1) ++ ⟨#[58]⟩) ++ st X1) = st (commaB (lnB false 0 1) (its.take (j + 1)))) := hq (by
            rw [HTJ.o, if_neg hj0, HS.o]
            simp only [mk_oneQ, cat_st]
            simp [lnB])
          have hg : (0 < (j : Int)) := by omega
          clear hj0 HTJ
          obtain ⟨i0, i1, i2, i3⟩ := hCG.o wr HBr.o
          have k0 := hKG.o wr HBr.o
          go_wp2_with fail
          refine (HOF.o _).mono ?_
          rintro e v1 ⟨rfl, hv1⟩
          have HV4 := hq (below_trans HVr.o hv1)
          have HB4 := hq (below_trans HBr.o hv1)
          rw [leafT_v]
          clear hv1 c0 c1 c2 c3 i0 i1 i2 i3 k0
          go_wp2_with fail
          refine (HQK.o _ HB4.o).mono ?_
          rintro e v2 ⟨rfl, hv2⟩
          have HV5 := hq (below_trans HV4.o hv2)
          have HB5 := hq (below_trans HB4.o hv2)
          clear hv2 HV4 HB4
          generalize st Q1 = Q2 at *
          obtain ⟨c0, c1, c2, c3⟩ := hVC.o v2 HV5.o
          obtain ⟨i0, i1, i2, i3⟩ := hCG.o v2 HB5.o
          go_wp2_with fail
          refine (HIX.o _ HB5.o).mono ?_
          rintro e v3 ⟨rfl, hv3⟩
          have HV6 := hq (below_trans HV5.o hv3)
          generalize st X1 = X2 at *
          clear hv3 c0 c1 c2 c3 i0 i1 i2 i3
          go_wp2_with fail
          go_roundw
          case rel => exact ⟨j + 1, _, h, rfl, int_eq (by omega), by rw [HNX.o]; exact HSU.o, HNX, HV6⟩
          case measure => (try simp [intOf]); omega
      · have hz : ¬ (j : Int) < (is.length : Int) := by omega
        have hjl : j = is.length := by omega
        have HFN : Hq ((⟨#[123]⟩ ++ S) ++ ⟨#[125]⟩ = st (listB false 0 0 123 125 its)) := hq (by
          rw [HS.o, hjl, HAL.o, HLS.o]
          simp only [mk_oneQ, cat_st]
          simp)
        have HFL : Hq ((listB false 0 0 123 125 its == ((⟨#[123]⟩ ++ S) ++ ⟨#[125]⟩).data.toList) = true) := hq (by rw [HFN.o, st_list]; exact beq_self_eq_true _)
        have HV := hq (HFI.o wr HBr.o)
        clear hjl HIT HTK HUP HAL HOK HIA HFI HLS HLN HKX HKN HSH
        generalize listB false 0 0 123 125 its = PB at *
        have hfl := HFL.o
        have hfn := HFN.o
        go_wp2_with fail
        first | exact HV.o | (go_ret; exact HV.o) | trace_state
  have e5 : (k != 5) = true := by simpa using h5
  have e6 : (k != 6) = true := by simpa using h6
  have HV := hq (HFI.o w3 HB3.o)
  clear HFI HOK HEV HF hr hlen hsz HIT
  go_wp2_with fail
  first | exact HV.o | (go_ret; exact HV.o)
end Go.Proofs.YtnlkokgekjlmmaaGreatDoor
