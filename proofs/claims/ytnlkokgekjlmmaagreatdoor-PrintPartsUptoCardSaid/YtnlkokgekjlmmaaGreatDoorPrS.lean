/-
  WALK: the small case of the laws of layer 8.
-/
import Derived.Test.YtnlkokgekjlmmaaGreatDoorPrT
import Derived.Test.YtnlkokgekjlmmaaGreatDoorFlw
namespace Go.Proofs.YtnlkokgekjlmmaaGreatDoor
open Go.RowKit

theorem one_txt : textM (ofM 1) = [49] := by kernel_rfl
/-- the null value's own block -/
structure NP (w : World) (g : Nat) (W : World) : Prop where
  lo : Below w.heap.size w W
  nl : Whole W g 25 #[.int .i64 1, .string ⟨#[]⟩, .slice none 0 0, .slice none 0 0]
theorem NP.grow {w W W' : World} {g : Nat} (h : NP w g W) (hb : Below W.heap.size W W') : NP w g W' := ⟨below_trans h.lo hb, h.nl.grow hb⟩
theorem NP.alloc {w W : World} {g : Nat} (h : NP w g W) (o : Obj) : NP w g (W.alloc o) := h.grow (below_alloc W o)
theorem NP.drew {w W : World} {g : Nat} (h : NP w g W) : NP w g W.drew := h.grow (Below.refl _ _).drew
theorem NP.put4 {w W W0 : World} {g X : Nat} (h : NP w g W) (h0 : NP w g W0) (hX : W0.heap.size ≤ X) (a b c d : Value) : NP w g ((((W.setCell ⟨X, 0, none⟩ a).setCell ⟨X, 1, none⟩ b).setCell ⟨X, 2, none⟩ c).setCell ⟨X, 3, none⟩ d) := by
  have hg : w.heap.size ≤ X := Nat.le_trans h0.lo.size hX
  have hk : g ≠ X := by have := h0.nl.lt; omega
  exact ⟨below_put (below_put (below_put (below_put h.lo hg 0 a) hg 1 b) hg 2 c) hg 3 d, (((h.nl.far (p := ⟨X, 0, none⟩) hk a).far (p := ⟨X, 1, none⟩) hk b).far (p := ⟨X, 2, none⟩) hk c).far (p := ⟨X, 3, none⟩) hk d⟩

theorem put4_block (W : World) (l : Nat) (a b c d : Value) (j : Nat) (h : j ≠ l) : ((((W.setCell ⟨l, 0, none⟩ a).setCell ⟨l, 1, none⟩ b).setCell ⟨l, 2, none⟩ c).setCell ⟨l, 3, none⟩ d).heap[j]? = W.heap[j]? := by
  rw [Below.heap_setCell _ _ _ _ h, Below.heap_setCell _ _ _ _ h, Below.heap_setCell _ _ _ _ h, Below.heap_setCell _ _ _ _ h]
theorem put4_whole {W : World} {g : Nat} {T : TypeId} {x y z u : Value} (h : Whole W g T #[x, y, z, u]) (a b c d : Value) : Whole ((((W.setCell ⟨g, 0, none⟩ a).setCell ⟨g, 1, none⟩ b).setCell ⟨g, 2, none⟩ c).setCell ⟨g, 3, none⟩ d) g T #[a, b, c, d] :=
  (((h.put 0 a).put 1 b).put 2 c).put 3 d
theorem put4_size (W : World) (l : Nat) (a b c d : Value) : ((((W.setCell ⟨l, 0, none⟩ a).setCell ⟨l, 1, none⟩ b).setCell ⟨l, 2, none⟩ c).setCell ⟨l, 3, none⟩ d).heap.size = W.heap.size := by simp [World.setCell]
abbrev NULc : Array Value := #[.int .i64 1, .string ⟨#[]⟩, .slice none 0 0, .slice none 0 0]
abbrev ZROc : Array Value := #[.int .i64 0, .string ⟨#[]⟩, .slice none 0 0, .slice none 0 0]
abbrev Ac : Array Value := #[.int .i64 3, .string (st [49]), .slice none 0 0, .slice none 0 0, .int .i64 1, .string ⟨#[]⟩, .slice none 0 0, .slice none 0 0]
abbrev Bc (gi : Nat) : Array Value := #[.int .i64 5, .string ⟨#[]⟩, .slice none 0 0, .slice (some ⟨gi, 0, none⟩) 2 2, .int .i64 4, .string (st [120]), .slice none 0 0, .slice none 0 0]
abbrev Kc : Array Value := #[.string ⟨#[98]⟩, .string ⟨#[97]⟩]
def sb : Value → Nat | .slice (some a) _ _ => a.block | _ => 0
def kb : Value → Nat | .agg #[_, _, k, _] => sb k | _ => 0
def ib : Value → Nat | .agg #[_, _, _, i] => sb i | _ => 0
def R2 (i : Nat) (v : Value) (lo hi : Nat) (W : World) : Prop := match i with
  | 0 => v = .slice (some ⟨sb v, 0, none⟩) 2 2 ∧ Whole W (sb v) 9 Kc
  | 1 => v = .agg #[.int .i64 3, .string (st [49]), .slice none 0 0, .slice none 0 0]
  | 2 => v = .agg NULc
  | 3 => v = .slice (some ⟨sb v, 0, none⟩) 2 2 ∧ Whole W (sb v) 25 Ac
  | 4 => v = .agg #[.int .i64 5, .string ⟨#[]⟩, .slice none 0 0, .slice (some ⟨ib v, 0, none⟩) 2 2] ∧ Whole W (ib v) 25 Ac
  | 5 => v = .agg #[.int .i64 4, .string (st [120]), .slice none 0 0, .slice none 0 0]
  | 6 => v = .slice (some ⟨sb v, 0, none⟩) 2 2 ∧ ∃ gi, Whole W (sb v) 25 (Bc gi) ∧ Whole W gi 25 Ac
  | 7 => v = .agg #[.int .i64 6, .string ⟨#[]⟩, .slice (some ⟨kb v, 0, none⟩) 2 2, .slice (some ⟨ib v, 0, none⟩) 2 2] ∧ Whole W (kb v) 9 Kc ∧ ∃ gi, Whole W (ib v) 25 (Bc gi) ∧ Whole W gi 25 Ac
  | 8 => v = .pointer (some ⟨lo, 0, none⟩) ∧ hi = lo + 1 ∧ Whole W lo 25 ZROc
  | _ => True
theorem whole_new {W V : World} {T : TypeId} {cs : Array Value} (h : ∀ b, W.heap.size ≤ b → b < (W.alloc (.cells cs T)).heap.size → V.heap[b]? = (W.alloc (.cells cs T)).heap[b]?) : Whole V W.heap.size T cs :=
  (h _ (Nat.le_refl _) (by rw [World.size_alloc]; omega)).trans (heap_alloc_new W _)
set_option maxHeartbeats 32000000 in
set_option maxRecDepth 1000000 in
theorem smallPr_any (w : World) (hE : Env w) : Calls Tryz.prog 13 #[] w (BPost true w) := by
  have HN1 : Hq (∀ V, Below w.heap.size w V → Calls Tryz.prog 47 #[.int .i64 1] V (LeafPost 3 [49] V)) := hq (fun V hV => by have := vNum_any 1 V (hE.grow hV).its (by decide) (by decide); rwa [one_txt] at this)
  have HE := hq hE
  have hT0 : NP w w.heap.size (w.alloc (.cells #[.int .i64 1, .string ⟨#[]⟩, .slice none 0 0, .slice none 0 0] 25)) := ⟨below_alloc _ _, Whole.made _ _ _⟩
  clear hE
  go_enter Tryz.func13, Tryz.ntmps13
  go_upto_region 2 with fail
  generalize (w.alloc (.cells #[.int .i64 1, .string ⟨#[]⟩, .slice none 0 0, .slice none 0 0] 25)) = V0 at *
  obtain ⟨g0, hg0⟩ : ∃ g, w.heap.size = g := ⟨_, rfl⟩
  have HG := hq hg0
  rw [hg0] at hT0 ⊢
  clear hg0
  go_cut [2] from 12 to 19 (fun a wx => ∃ g2 gk gj gi : Nat, a = .pointer (some ⟨g2, 0, none⟩) ∧ Hq (NP w g0 wx) ∧ Hq (Whole wx g2 25 #[.int .i64 6, .string ⟨#[]⟩, .slice (some ⟨gk, 0, none⟩) 2 2, .slice (some ⟨gj, 0, none⟩) 2 2]) ∧ Hq (Whole wx gk 9 #[.string ⟨#[98]⟩, .string ⟨#[97]⟩]) ∧ Hq (Whole wx gj 25 #[.int .i64 5, .string ⟨#[]⟩, .slice none 0 0, .slice (some ⟨gi, 0, none⟩) 2 2, .int .i64 4, .string (st [120]), .slice none 0 0, .slice none 0 0]) ∧ Hq (Whole wx gi 25 #[.int .i64 3, .string (st [49]), .slice none 0 0, .slice none 0 0, .int .i64 1, .string ⟨#[]⟩, .slice none 0 0, .slice none 0 0]))
  case first =>
    refine go_flow (by kernel_rfl) [(0, 12), (1, 13), (2, 14), (3, 15), (4, 16), (5, 17), (6, 18), (7, 19), (8, 2)] [[0], [1], [2], [3, 1, 2], [4, 3, 1, 2], [5], [6, 4, 3, 1, 2, 5], [7, 0, 6, 4, 3, 1, 2, 5], [8]] [8] [9] R2 ?A ?hA (by kernel_rfl) ?hs ?he
    case hA =>
      intro f
      simp only [putS]
      go_simp
      rfl
    case hs => 
      refine Steps.cons rfl ?_ (Steps.cons rfl ?_ (Steps.cons rfl ?_ (Steps.cons rfl ?_ (Steps.cons rfl ?_ (Steps.cons rfl ?_ (Steps.cons rfl ?_ (Steps.cons rfl ?_ (Steps.cons rfl ?_ Steps.nil))))))))
      · intro f lo hi W hb hd K hK
        rw [if_pos (by rfl)]
        go_simp
        exact hK (.slice (some ⟨W.heap.size, 0, none⟩) 2 2) _ (below_alloc _ _) (fun V _ _ h _ => ⟨rfl, whole_new h⟩)
      · intro f lo hi W hb hd K hK
        rw [if_pos (by rfl)]
        go_simp
        refine (HN1.o W (below_trans hT0.lo hb)).mono ?_
        rintro e w2 ⟨rfl, hb2⟩
        rw [leafT_v]
        exact hK _ _ hb2 (fun V _ _ h _ => rfl)
      · intro f lo hi W hb hd K hK
        rw [if_pos (by rfl)]
        obtain ⟨n0, n1, n2, n3⟩ := four_cells (hT0.nl.grow hb)
        go_simp
        exact hK (.agg NULc) _ (Below.refl _ _) (fun V _ _ h _ => rfl)
      · intro f lo hi W hb hd K hK
        rw [if_pos (by rfl)]
        have e1 : f 1 = _ := hd 1 (by decide) (by decide)
        have e2 : f 2 = _ := hd 2 (by decide) (by decide)
        clear hd
        dsimp only at hK
        generalize f 1 = x1 at e1 hK ⊢
        generalize f 2 = x2 at e2 hK ⊢
        subst e1
        subst e2
        go_simp
        exact hK (.slice (some ⟨W.heap.size, 0, none⟩) 2 2) _ (below_alloc _ _) (fun V _ _ h _ => ⟨rfl, whole_new h⟩)
      · intro f lo hi W hb hd K hK
        rw [if_pos (by rfl)]
        have e3 := (hd 3 (by decide) (by decide)).1
        have HF : Hq (∀ V, (∀ j ∈ [4, 3, 1, 2], j ≠ 4 → R2 j (f j) (lo j) (hi j) V) → Whole V (sb (f 3)) 25 Ac) := hq (fun V h => (h 3 (by decide) (by decide)).2)
        clear hd
        dsimp only at hK
        generalize sb (f 3) = g at *
        generalize f 3 = x3 at e3 hK ⊢
        subst e3
        go_simp
        refine (vRow_any _ _ _ _).mono ?_
        rintro e w2 ⟨rfl, hb2⟩
        exact hK _ _ hb2 (fun V _ _ h h2 => ⟨rfl, HF.o V h2⟩)
      · intro f lo hi W hb hd K hK
        rw [if_pos (by rfl)]
        go_simp
        refine (vOf_any [120] _).mono ?_
        rintro e w2 ⟨rfl, hb2⟩
        exact hK _ _ hb2 (fun V _ _ h _ => rfl)
      · intro f lo hi W hb hd K hK
        rw [if_pos (by rfl)]
        have e4 := (hd 4 (by decide) (by decide)).1
        have e5 : f 5 = _ := hd 5 (by decide) (by decide)
        have HF : Hq (∀ V, (∀ j ∈ [6, 4, 3, 1, 2, 5], j ≠ 6 → R2 j (f j) (lo j) (hi j) V) → Whole V (ib (f 4)) 25 Ac) := hq (fun V h => (h 4 (by decide) (by decide)).2)
        clear hd
        dsimp only at hK
        generalize ib (f 4) = g at *
        generalize f 4 = x4 at e4 hK ⊢
        generalize f 5 = x5 at e5 hK ⊢
        subst e4
        subst e5
        go_simp
        exact hK (.slice (some ⟨W.heap.size, 0, none⟩) 2 2) _ (below_alloc _ _) (fun V _ _ h h2 => ⟨rfl, g, whole_new h, HF.o V h2⟩)
      · intro f lo hi W hb hd K hK
        rw [if_pos (by rfl)]
        have e0 := (hd 0 (by decide) (by decide)).1
        have e6 := (hd 6 (by decide) (by decide)).1
        have HF : Hq (∀ V, (∀ j ∈ [7, 0, 6, 4, 3, 1, 2, 5], j ≠ 7 → R2 j (f j) (lo j) (hi j) V) → Whole V (sb (f 0)) 9 Kc ∧ ∃ gi, Whole V (sb (f 6)) 25 (Bc gi) ∧ Whole V gi 25 Ac) := hq (fun V h => ⟨(h 0 (by decide) (by decide)).2, (h 6 (by decide) (by decide)).2⟩)
        clear hd
        dsimp only at hK
        generalize sb (f 0) = gk at *
        generalize sb (f 6) = gj at *
        generalize f 0 = x0 at e0 hK ⊢
        generalize f 6 = x6 at e6 hK ⊢
        subst e0
        subst e6
        go_simp
        refine (vMap_any _ _ _ _ _ _ _).mono ?_
        rintro e w2 ⟨rfl, hb2⟩
        exact hK _ _ hb2 (fun V _ _ h h2 => ⟨rfl, HF.o V h2⟩)
      · intro f lo hi W hb hd K hK
        rw [if_pos (by rfl)]
        go_simp
        exact hK (.pointer (some ⟨W.heap.size, 0, none⟩)) _ (below_alloc _ _) (fun V _ _ h _ => ⟨rfl, World.size_alloc _ _, whole_new h⟩)
    case he =>
      intro f lo hi W hb hR hbx hk
      have h8 := hR 8 (by decide)
      have h7 := (hR 7 (by decide)).1
      have hx := hbx 8 (by decide) (by decide)
      obtain ⟨e8, e9, hw8⟩ := h8
      have hk7 := fun w'' h1 h2 h3 => (hk w'' h1 h2 (only_block 8 (by decide) rfl e9 h3) 7 (by decide) (by decide)).2
      clear hR hbx hk
      generalize lo 8 = l8 at *
      generalize kb (f 7) = gk at *
      generalize ib (f 7) = gj at *
      generalize f 7 = x7 at *
      generalize f 8 = x8 at *
      subst h7
      subst e8
      obtain ⟨z0, z1, z2, z3⟩ := four_cells hw8
      have z4 := hw8.free 0
      have z5 := hw8.free 1
      have z6 := hw8.free 2
      have z7 := hw8.free 3
      refine wpOps_one rfl ?_
      rw [if_pos (by rfl)]
      go_simp
      refine wpOps_done ?_
      go_wp2_with fail
      go_meet
      have hb4 := below_put4 hb hx.1 (.int .i64 6) (.string ⟨#[]⟩) (.slice (some ⟨gk, 0, none⟩) 2 2) (.slice (some ⟨gj, 0, none⟩) 2 2)
      obtain ⟨h1, gi, h2, h3⟩ := hk7 _ hb4 (Nat.le_of_eq (put4_size W l8 _ _ _ _).symm) (fun b _ hn => put4_block W l8 _ _ _ _ b hn)
      exact ⟨_, _, _, _, rfl, hq (hT0.grow hb4), hq (put4_whole hw8 _ _ _ _), hq h1, hq h2, hq h3⟩
  case rest =>
    obtain ⟨g2, gk, gj, gi, rfl, HT, H2, HK, HJ, HI⟩ := hcut
    have HEN := hq (fun V (h : Below wc.heap.size wc V) => HE.o.grow (below_trans HT.o.lo h))
    have HCO : Hq (∀ V, Below wc.heap.size wc V → Calls Tryz.prog 16 #[.agg #[.int .i64 6, .string ⟨#[]⟩, .slice (some ⟨gk, 0, none⟩) 2 2, .slice (some ⟨gj, 0, none⟩) 2 2]] V (TextP ([123, 34, 98, 34, 58, 91, 49, 44, 110, 117, 108, 108, 93, 44, 34, 97, 34, 58, 34, 120, 34, 125], 0) V)) := hq (fun V h => by
      have := pcompact (xPT gk gj gi) V (HEN.o V h) ((xPT_pri HK.o HJ.o HI.o).grow h)
      rw [xPT_m, txP_compact] at this
      exact this)
    have HCA : Hq (∀ V, Below wc.heap.size wc V → Calls Tryz.prog 17 #[.agg #[.int .i64 6, .string ⟨#[]⟩, .slice (some ⟨gk, 0, none⟩) 2 2, .slice (some ⟨gj, 0, none⟩) 2 2]] V (TextP ([123, 34, 97, 34, 58, 34, 120, 34, 44, 34, 98, 34, 58, 91, 49, 44, 110, 117, 108, 108, 93, 125], 0) V)) := hq (fun V h => by
      have := pcanon (xPT gk gj gi) V (HEN.o V h) ((xPT_pri HK.o HJ.o HI.o).grow h)
      rw [xPT_m, txP_canon] at this
      exact this)
    have HPR : Hq (∀ (g : Nat) V, Below wc.heap.size wc V → Whole V g 25 #[.int .i64 3, .string (st [49]), .slice none 0 0, .slice none 0 0, .int .i64 5, .string ⟨#[]⟩, .slice none 0 0, .slice none 0 0] → Calls Tryz.prog 18 #[.agg #[.int .i64 5, .string ⟨#[]⟩, .slice none 0 0, .slice (some ⟨g, 0, none⟩) 2 2], .int .i64 2, .int .i64 0] V (TextP ([91, 10, 32, 32, 49, 44, 10, 32, 32, 91, 93, 10, 93], 0) V)) := hq (fun g V h hw => by
      have := ppretty (rPT g) 2 0 V (HEN.o V h) (rPT_pri hw)
      rw [rPT_m, txP_pretty] at this
      exact this)
    have HHO : Hq (∀ V, Below wc.heap.size wc V → Calls Tryz.prog 16 #[.agg #[.int .i64 7, .string ⟨#[48]⟩, .slice none 0 0, .slice none 0 0]] V (TextP ([], 1) V)) := hq (fun V h => by
      have := pcompact (leafT 7 [48]) V (HEN.o V h) (holeP_pri V)
      rw [leafT_m, txP_hole] at this
      exact this)
    have HNU : Hq (∀ V, Below wc.heap.size wc V → Calls Tryz.prog 47 #[.int .i64 1] V (LeafPost 3 [49] V)) := hq (fun V h => HN1.o V (below_trans HT.o.lo h))
    have HFI : Hq (∀ W', Below wc.heap.size wc W' → BPost true w (.returned (.bool true)) W') := hq (fun W' h => ⟨rfl, below_trans HT.o.lo h⟩)
    generalize BPost true w = PP at *
    clear HN1 HE HT HEN HK HJ HI
    have hb := Below.refl wc.heap.size wc
    obtain ⟨x0, x1, x2, x3⟩ := four_cells H2.o
    go_wp2_with fail
    refine (HCO.o wc hb).mono ?_
    rintro e w1 ⟨rfl, hb1⟩
    replace hb := below_trans hb hb1
    replace H2 := hq (H2.o.grow hb1)
    clear HCO hb1 x0 x1 x2 x3
    obtain ⟨x0, x1, x2, x3⟩ := four_cells H2.o
    go_wp2_with fail
    refine (HCA.o w1 hb).mono ?_
    rintro e w2 ⟨rfl, hb2⟩
    replace hb := below_trans hb hb2
    clear HCA hb2 x0 x1 x2 x3 H2
    go_wp2_with fail
    refine (HNU.o w2 hb).mono ?_
    rintro e w3 ⟨rfl, hb3⟩
    rw [leafT_v]
    replace hb := below_trans hb hb3
    clear HNU hb3
    go_wp2_with fail
    refine (vRow_any none 0 0 _).mono ?_
    rintro e w4 ⟨rfl, hb4⟩
    replace hb := below_trans hb hb4
    clear hb4
    go_wp2_with fail
    refine (vRow_any _ _ _ _).mono ?_
    rintro e w5 ⟨rfl, hb5⟩
    have HW5 := hq ((Whole.made w4 25 #[.int .i64 3, .string (st [49]), .slice none 0 0, .slice none 0 0, .int .i64 5, .string ⟨#[]⟩, .slice none 0 0, .slice none 0 0]).grow hb5)
    replace hb := below_trans (below_allocP hb _) hb5
    clear hb5
    go_wp2_with fail
    refine (HPR.o _ w5 hb HW5.o).mono ?_
    rintro e w6 ⟨rfl, hb6⟩
    replace hb := below_trans hb hb6
    clear hb6 HPR HW5
    go_wp2_with fail
    refine (HHO.o w6 hb).mono ?_
    rintro e w7 ⟨rfl, hb7⟩
    have HV := hq (HFI.o w7 (below_trans hb hb7))
    clear hb7 hb HHO HFI
    go_wp2_with fail
    first
      | exact HV.o
      | (go_ret
         exact HV.o)
      | trace_state

end Go.Proofs.YtnlkokgekjlmmaaGreatDoor

