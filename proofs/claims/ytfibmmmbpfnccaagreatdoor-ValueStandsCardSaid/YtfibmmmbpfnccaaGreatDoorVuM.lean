/-
  WALK: small of layer 6, its first six regions.
-/
import Derived.Test.YtfibmmmbpfnccaaGreatDoorVuB
import Derived.Test.YtfibmmmbpfnccaaGreatDoorVtZ
namespace Go.Proofs.YtfibmmmbpfnccaaGreatDoor
open Go.RowKit

def lfC (k : Int) (t : Bs) : Array Value := #[.int .i64 k, .string (st t), .slice none 0 0, .slice none 0 0]
theorem whole_items {W : World} {g : Nat} {T : TypeId} {l : List Vt} {cs : Array Value} (h : Whole W g T cs) (hc : cs = (vtC l).toArray) : ∀ i (hi : i < l.length), ∃ b f, (some ⟨g, 0, none⟩ : Option Addr) = some ⟨b, f, none⟩ ∧ ItemAt W b (f + i * 4) l[i] := fun i hi => by
  subst hc
  obtain ⟨h0, h1, h2, h3⟩ := vtC_at l i hi
  have e : ∀ j u, (vtC l)[j]? = some u → W.cell? ⟨g, 0 + j, none⟩ = some u := fun j u hu => by
    rw [Nat.zero_add, h.at_ j]; simpa using hu
  exact ⟨g, 0, rfl, ⟨e _ _ h0, e _ _ h1, e _ _ h2, e _ _ h3⟩⟩
theorem whole_strs {W : World} {g : Nat} {T : TypeId} {l : List Bs} {cs : Array Value} (h : Whole W g T cs) (hc : cs = (strC l).toArray) : StrsIn W (some ⟨g, 0, none⟩) l := fun i hi => by
  subst hc
  refine ⟨g, 0, rfl, ?_⟩
  rw [Nat.zero_add, h.at_ i]
  simp [strC, hi]
theorem leaf_ok (k : Int) (t : Bs) (W : World) (hk : -9223372036854775808 ≤ k ∧ k ≤ 9223372036854775807) (ht : t.length ≤ maxLen) : (leafT k t).Ok W :=
  .mk _ _ _ _ _ _ hk ht ⟨Nat.le_refl _, Nat.zero_le _, StrsIn.nil _ _⟩ (fun x hx => by cases hx) (Nat.le_refl _) (Nat.zero_le _) (fun i hi => absurd hi (Nat.not_lt_zero i)) (fun i hi => absurd hi (Nat.not_lt_zero i))
/-- an array of trees that lie in a block -/
theorem arr_ok {W : World} {g : Nat} {T : TypeId} {l : List Vt} {cs : Array Value} (h : Whole W g T cs) (hc : cs = (vtC l).toArray) (hl : l.length ≤ 1000) (hok : ∀ x ∈ l, x.Ok W) : (Vt.mk 5 [] ⟨none, 0, []⟩ (some ⟨g, 0, none⟩) l.length l).Ok W :=
  .mk _ _ _ _ _ _ (by decide) (Nat.zero_le _) ⟨Nat.le_refl _, Nat.zero_le _, StrsIn.nil _ _⟩ (fun x hx => by cases hx) (Nat.le_refl _) (Nat.le_trans hl (by decide)) (whole_items h hc) (fun i hi => hok _ (List.getElem_mem hi))
theorem map_ok {W : World} {gk g : Nat} {TK T : TypeId} {kl : List Bs} {l : List Vt} {cs ds : Array Value} (hk : Whole W gk TK ds) (hd : ds = (strC kl).toArray) (h : Whole W g T cs) (hc : cs = (vtC l).toArray) (hkl : kl.length ≤ 1000) (hkt : ∀ x ∈ kl, x.length ≤ maxLen) (hl : l.length ≤ 1000) (hok : ∀ x ∈ l, x.Ok W) : (Vt.mk 6 [] ⟨some ⟨gk, 0, none⟩, kl.length, kl⟩ (some ⟨g, 0, none⟩) l.length l).Ok W :=
  .mk _ _ _ _ _ _ (by decide) (Nat.zero_le _) ⟨Nat.le_refl _, Nat.le_trans hkl (by decide), whole_strs hk hd⟩ hkt (Nat.le_refl _) (Nat.le_trans hl (by decide)) (whole_items h hc) (fun i hi => hok _ (List.getElem_mem hi))
/-- what small has laid by -/
structure Pk (w : World) (g1 g2 g3 g4 : Nat) (W : World) : Prop where
  lo : Below w.heap.size w W
  o1 : Whole W g1 25 #[.int .i64 3, .string (st [49]), .slice none 0 0, .slice none 0 0]
  o2 : Whole W g2 25 #[.int .i64 3, .string (st [50]), .slice none 0 0, .slice none 0 0]
  k1 : Whole W (g2 + 1) 9 #[.string ⟨#[97]⟩, .string ⟨#[98]⟩]
  i1 : Whole W (g2 + 1 + 1) 25 #[.int .i64 3, .string (st [49]), .slice none 0 0, .slice none 0 0, .int .i64 3, .string (st [50]), .slice none 0 0, .slice none 0 0]
  x : Whole W g3 25 #[.int .i64 6, .string ⟨#[]⟩, .slice (some ⟨g2 + 1, 0, none⟩) 2 2, .slice (some ⟨g2 + 1 + 1, 0, none⟩) 2 2]
  k2 : Whole W (g3 + 1) 9 #[.string ⟨#[98]⟩, .string ⟨#[97]⟩]
  i2 : Whole W (g3 + 1 + 1) 25 #[.int .i64 3, .string (st [50]), .slice none 0 0, .slice none 0 0, .int .i64 3, .string (st [49]), .slice none 0 0, .slice none 0 0]
  y : Whole W g4 25 #[.int .i64 6, .string ⟨#[]⟩, .slice (some ⟨g3 + 1, 0, none⟩) 2 2, .slice (some ⟨g3 + 1 + 1, 0, none⟩) 2 2]
theorem Pk.grow {w W W' : World} {g1 g2 g3 g4 : Nat} (h : Pk w g1 g2 g3 g4 W) (hb : Below W.heap.size W W') : Pk w g1 g2 g3 g4 W' :=
  ⟨below_trans h.lo hb, h.o1.grow hb, h.o2.grow hb, h.k1.grow hb, h.i1.grow hb, h.x.grow hb, h.k2.grow hb, h.i2.grow hb, h.y.grow hb⟩
theorem Pk.drew {w W : World} {g1 g2 g3 g4 : Nat} (h : Pk w g1 g2 g3 g4 W) : Pk w g1 g2 g3 g4 W.drew := h.grow (Below.refl _ _).drew
theorem Pk.alloc {w W : World} {g1 g2 g3 g4 : Nat} (h : Pk w g1 g2 g3 g4 W) (ob : Obj) : Pk w g1 g2 g3 g4 (W.alloc ob) := h.grow (below_alloc W ob)
theorem whole_far4 {W : World} {g k : Nat} {T : TypeId} {cs : Array Value} (h : Whole W g T cs) (hk : g ≠ k) (a b c d : Value) : Whole ((((W.setCell ⟨k, 0, none⟩ a).setCell ⟨k, 1, none⟩ b).setCell ⟨k, 2, none⟩ c).setCell ⟨k, 3, none⟩ d) g T cs :=
  (((h.far (p := ⟨k, 0, none⟩) hk a).far (p := ⟨k, 1, none⟩) hk b).far (p := ⟨k, 2, none⟩) hk c).far (p := ⟨k, 3, none⟩) hk d
theorem whole_put4 {W : World} {g : Nat} {T : TypeId} {x y z u : Value} (h : Whole W g T #[x, y, z, u]) (a b c d : Value) : Whole ((((W.setCell ⟨g, 0, none⟩ a).setCell ⟨g, 1, none⟩ b).setCell ⟨g, 2, none⟩ c).setCell ⟨g, 3, none⟩ d) g T #[a, b, c, d] :=
  (((h.put 0 a).put 1 b).put 2 c).put 3 d
theorem whole_dr {W : World} {g : Nat} {T : TypeId} {cs : Array Value} (h : Whole W g T cs) : Whole W.drew g T cs := h
theorem Pk.put4 {w W W0 : World} {g1 g2 g3 g4 X : Nat} (h : Pk w g1 g2 g3 g4 W) (h0 : Pk w g1 g2 g3 g4 W0) (hX : W0.heap.size ≤ X) (a b c d : Value) : Pk w g1 g2 g3 g4 ((((W.setCell ⟨X, 0, none⟩ a).setCell ⟨X, 1, none⟩ b).setCell ⟨X, 2, none⟩ c).setCell ⟨X, 3, none⟩ d) := by
  have f : ∀ {g : Nat} {T : TypeId} {cs : Array Value}, Whole W g T cs → g < W0.heap.size → Whole ((((W.setCell ⟨X, 0, none⟩ a).setCell ⟨X, 1, none⟩ b).setCell ⟨X, 2, none⟩ c).setCell ⟨X, 3, none⟩ d) g T cs := fun {g T cs} hw hl => by
    have hk : g ≠ X := by omega
    exact (((hw.far (p := ⟨X, 0, none⟩) hk a).far (p := ⟨X, 1, none⟩) hk b).far (p := ⟨X, 2, none⟩) hk c).far (p := ⟨X, 3, none⟩) hk d
  exact ⟨by
    have hg : w.heap.size ≤ X := Nat.le_trans h0.lo.size hX
    exact below_put (below_put (below_put (below_put h.lo hg 0 a) hg 1 b) hg 2 c) hg 3 d, f h.o1 h0.o1.lt, f h.o2 h0.o2.lt, f h.k1 h0.k1.lt, f h.i1 h0.i1.lt, f h.x h0.x.lt, f h.k2 h0.k2.lt, f h.i2 h0.i2.lt, f h.y h0.y.lt⟩
/-! ### what small asks, of trees -/
def oneL : Vl := .mk 3 [49] [] []
def twoL : Vl := .mk 3 [50] [] []
def xL : Vl := .mk 6 [] [[97], [98]] [oneL, twoL]
def yL : Vl := .mk 6 [] [[98], [97]] [twoL, oneL]
def zL : Vl := .mk 5 [] [] [oneL, .mk 5 [] [] [twoL]]
theorem cx_right : rightM xL = true := by kernel_rfl
theorem cx_same : sameM xL yL = true := by kernel_rfl
theorem cx_rows : compM (.mk 5 [] [] [oneL]) (.mk 5 [] [] [oneL, twoL]) = -1 := by kernel_rfl
theorem cx_nums : compM (.mk 3 [57] [] []) (.mk 3 [49, 101, 49] [] []) = -1 := by kernel_rfl
theorem cx_size : zL.size = 4 := by kernel_rfl
theorem cx_depth : zL.depth = 3 := by kernel_rfl
theorem cx_sort : (if openM yL = true then sortV yL else zeroL) = xL := by kernel_rfl
theorem cx_get : getM xL [98] = some twoL := by kernel_rfl
theorem leaf_m (k : Int) (t : Bs) : (leafT k t).m = .mk k t [] [] := leafT_m k t
def xT (g2 : Nat) : Vt := .mk 6 [] ⟨some ⟨g2 + 1, 0, none⟩, 2, [[97], [98]]⟩ (some ⟨g2 + 1 + 1, 0, none⟩) 2 [leafT 3 [49], leafT 3 [50]]
def yT (g3 : Nat) : Vt := .mk 6 [] ⟨some ⟨g3 + 1, 0, none⟩, 2, [[98], [97]]⟩ (some ⟨g3 + 1 + 1, 0, none⟩) 2 [leafT 3 [50], leafT 3 [49]]
def rT (g : Nat) : Vt := .mk 5 [] ⟨none, 0, []⟩ (some ⟨g, 0, none⟩) 1 [leafT 3 [49]]
def rT2 (g : Nat) : Vt := .mk 5 [] ⟨none, 0, []⟩ (some ⟨g, 0, none⟩) 2 [leafT 3 [49], leafT 3 [50]]
def jT (g : Nat) : Vt := .mk 5 [] ⟨none, 0, []⟩ (some ⟨g, 0, none⟩) 1 [leafT 3 [50]]
def zT (gi gj : Nat) : Vt := .mk 5 [] ⟨none, 0, []⟩ (some ⟨gi, 0, none⟩) 2 [leafT 3 [49], jT gj]
theorem xT_m (g : Nat) : (xT g).m = xL := by unfold xT; rw [Vt.m_mk]; simp only [List.map_cons, List.map_nil, leaf_m]; rfl
theorem yT_m (g : Nat) : (yT g).m = yL := by unfold yT; rw [Vt.m_mk]; simp only [List.map_cons, List.map_nil, leaf_m]; rfl
theorem rT_m (g : Nat) : (rT g).m = .mk 5 [] [] [oneL] := by unfold rT; rw [Vt.m_mk]; simp only [List.map_cons, List.map_nil, leaf_m]; rfl
theorem rT2_m (g : Nat) : (rT2 g).m = .mk 5 [] [] [oneL, twoL] := by unfold rT2; rw [Vt.m_mk]; simp only [List.map_cons, List.map_nil, leaf_m]; rfl
theorem jT_m (g : Nat) : (jT g).m = .mk 5 [] [] [twoL] := by unfold jT; rw [Vt.m_mk]; simp only [List.map_cons, List.map_nil, leaf_m]; rfl
theorem zT_m (a b : Nat) : (zT a b).m = zL := by unfold zT; rw [Vt.m_mk]; simp only [List.map_cons, List.map_nil, leaf_m, jT_m]; rfl
theorem lim_small {v : Vl} (h : v.allB (fun x => decide (x.t.length ≤ 100) && x.ks.all (fun k => decide (k.length ≤ 100))) = true) : v.All Lim := by
  revert h
  refine Vl.ind (P := fun v => v.allB _ = true → v.All Lim) (fun k t ks is ih h => ?_) v
  simp only [Vl.allB, Bool.and_eq_true, Vl.allsB_iff, decide_eq_true_eq, List.all_eq_true] at h
  exact .mk _ _ _ _ ⟨Nat.le_trans h.1.1 (by decide), fun k hk => Nat.le_trans (h.1.2 k hk) (by decide)⟩ (fun x hx => ih x hx (h.2 x hx))
theorem two_ok {a b : Vt} {W : World} (ha : a.Ok W) (hb : b.Ok W) : ∀ x ∈ [a, b], x.Ok W := fun x hx => by
  rcases List.mem_cons.1 hx with rfl | hx
  · exact ha
  · rw [List.mem_singleton.1 hx]; exact hb
theorem one_ok {a : Vt} {W : World} (ha : a.Ok W) : ∀ x ∈ [a], x.Ok W := fun x hx => by
  rw [List.mem_singleton.1 hx]; exact ha
theorem lf_ok (c : UInt8) (W : World) : (leafT 3 [c]).Ok W := leaf_ok 3 [c] W (by decide) (by show 1 ≤ maxLen; decide)
theorem xT_fine {W : World} {g : Nat} {TK T : TypeId} (hk : Whole W (g + 1) TK #[.string ⟨#[97]⟩, .string ⟨#[98]⟩]) (h : Whole W (g + 1 + 1) T #[.int .i64 3, .string (st [49]), .slice none 0 0, .slice none 0 0, .int .i64 3, .string (st [50]), .slice none 0 0, .slice none 0 0]) : Fine (xT g) W :=
  ⟨map_ok (kl := [[97], [98]]) (l := [leafT 3 [49], leafT 3 [50]]) hk rfl h rfl (by decide) (by decide) (by decide) (two_ok (lf_ok _ _) (lf_ok _ _)), by rw [xT_m]; exact lim_small (by kernel_rfl), by rw [xT_m, show xL.size = 3 by kernel_rfl]; decide⟩
theorem yT_fine {W : World} {g : Nat} {TK T : TypeId} (hk : Whole W (g + 1) TK #[.string ⟨#[98]⟩, .string ⟨#[97]⟩]) (h : Whole W (g + 1 + 1) T #[.int .i64 3, .string (st [50]), .slice none 0 0, .slice none 0 0, .int .i64 3, .string (st [49]), .slice none 0 0, .slice none 0 0]) : Fine (yT g) W :=
  ⟨map_ok (kl := [[98], [97]]) (l := [leafT 3 [50], leafT 3 [49]]) hk rfl h rfl (by decide) (by decide) (by decide) (two_ok (lf_ok _ _) (lf_ok _ _)), by rw [yT_m]; exact lim_small (by kernel_rfl), by rw [yT_m, show yL.size = 3 by kernel_rfl]; decide⟩
theorem rT_fine {W : World} {g : Nat} {T : TypeId} (h : Whole W g T #[.int .i64 3, .string (st [49]), .slice none 0 0, .slice none 0 0]) : Fine (rT g) W :=
  ⟨arr_ok (l := [leafT 3 [49]]) h rfl (by decide) (one_ok (lf_ok _ _)), by rw [rT_m]; exact lim_small (by kernel_rfl), by rw [rT_m, show (Vl.mk 5 [] [] [oneL]).size = 2 by kernel_rfl]; decide⟩
theorem rT2_fine {W : World} {g : Nat} {T : TypeId} (h : Whole W g T #[.int .i64 3, .string (st [49]), .slice none 0 0, .slice none 0 0, .int .i64 3, .string (st [50]), .slice none 0 0, .slice none 0 0]) : Fine (rT2 g) W :=
  ⟨arr_ok (l := [leafT 3 [49], leafT 3 [50]]) h rfl (by decide) (two_ok (lf_ok _ _) (lf_ok _ _)), by rw [rT2_m]; exact lim_small (by kernel_rfl), by rw [rT2_m, show (Vl.mk 5 [] [] [oneL, twoL]).size = 3 by kernel_rfl]; decide⟩
theorem leaf_fine {t : Bs} (W : World) (ht : t.length ≤ 100) : Fine (leafT 3 t) W :=
  ⟨leaf_ok 3 t W (by decide) (Nat.le_trans ht (by decide)), by rw [leaf_m]; exact .mk _ _ _ _ ⟨Nat.le_trans ht (by decide), fun k hk => by cases hk⟩ (fun x hx => by cases hx), by rw [leaf_m]; exact (by decide : (1 + 0 : Nat) ≤ 1000000)⟩
theorem zT_ok {W : World} {gi gj : Nat} {T : TypeId} (hi : Whole W gi T #[.int .i64 3, .string (st [49]), .slice none 0 0, .slice none 0 0, .int .i64 5, .string ⟨#[]⟩, .slice none 0 0, .slice (some ⟨gj, 0, none⟩) 1 1]) (hj : Whole W gj T #[.int .i64 3, .string (st [50]), .slice none 0 0, .slice none 0 0]) : (zT gi gj).Ok W :=
  arr_ok (l := [leafT 3 [49], jT gj]) hi rfl (by exact (by decide : (2 : Nat) ≤ 1000)) (two_ok (lf_ok _ _) (arr_ok (l := [leafT 3 [50]]) hj rfl (by exact (by decide : (1 : Nat) ≤ 1000)) (one_ok (lf_ok _ _))))
/-- all that small has laid by ahead of its last line -/
structure Pq (w : World) (g1 g2 g3 g4 g5 gi gj g6 : Nat) (GV : Array Value) (W : World) : Prop where
  pk : Pk w g1 g2 g3 g4 W
  z : Whole W g5 25 #[.int .i64 5, .string ⟨#[]⟩, .slice none 0 0, .slice (some ⟨gi, 0, none⟩) 2 2]
  zi : Whole W gi 25 #[.int .i64 3, .string (st [49]), .slice none 0 0, .slice none 0 0, .int .i64 5, .string ⟨#[]⟩, .slice none 0 0, .slice (some ⟨gj, 0, none⟩) 1 1]
  zj : Whole W gj 25 #[.int .i64 3, .string (st [50]), .slice none 0 0, .slice none 0 0]
  g : Whole W g6 25 GV
theorem Pq.grow {w W W' : World} {g1 g2 g3 g4 g5 gi gj g6 : Nat} {GV : Array Value} (h : Pq w g1 g2 g3 g4 g5 gi gj g6 GV W) (hb : Below W.heap.size W W') : Pq w g1 g2 g3 g4 g5 gi gj g6 GV W' :=
  ⟨h.pk.grow hb, h.z.grow hb, h.zi.grow hb, h.zj.grow hb, h.g.grow hb⟩
theorem Pq.drew {w W : World} {g1 g2 g3 g4 g5 gi gj g6 : Nat} {GV : Array Value} (h : Pq w g1 g2 g3 g4 g5 gi gj g6 GV W) : Pq w g1 g2 g3 g4 g5 gi gj g6 GV W.drew := h.grow (Below.refl _ _).drew
theorem Pq.alloc {w W : World} {g1 g2 g3 g4 g5 gi gj g6 : Nat} {GV : Array Value} (h : Pq w g1 g2 g3 g4 g5 gi gj g6 GV W) (ob : Obj) : Pq w g1 g2 g3 g4 g5 gi gj g6 GV (W.alloc ob) := h.grow (below_alloc W ob)
def GetB (V : World) (e : Ending) (V' : World) : Prop := ∃ (ko : Option Addr) (kc : Nat) (o : Option Addr) (c : Nat), e = .returned (.tuple #[.agg #[.int .i64 3, .string (st [50]), .slice ko 0 kc, .slice o 0 c], .bool true]) ∧ Below V.heap.size V V'
def IsX (a : Value) (V : World) : Prop := ∃ y : Vt, a = y.v ∧ y.Ok V ∧ y.m = xL
def SrtB (V : World) (e : Ending) (V' : World) : Prop := ∃ a : Value, e = .returned a ∧ Hq (IsX a V') ∧ Below V.heap.size V V'
theorem rng_x : xL.All Vl.Rng := by
  refine .mk _ _ _ _ ⟨by decide, Nat.zero_le _, fun x hx => ?_⟩ (fun x hx => ?_)
  · rcases List.mem_cons.1 hx with rfl | hx
    · decide
    · rw [List.mem_singleton.1 hx]; decide
  · rcases List.mem_cons.1 hx with rfl | hx
    · exact .mk _ _ _ _ ⟨by decide, by decide, fun x hx => by cases hx⟩ (fun x hx => by cases hx)
    · rw [List.mem_singleton.1 hx]; exact .mk _ _ _ _ ⟨by decide, by decide, fun x hx => by cases hx⟩ (fun x hx => by cases hx)
theorem txt1 : textM (ofM 1) = [49] := by kernel_rfl
theorem txt2 : textM (ofM 2) = [50] := by kernel_rfl
theorem txt9 : textM (ofM 9) = [57] := by kernel_rfl
theorem txt10 : textM (ofM 10) = [49, 101, 49] := by kernel_rfl
set_option maxHeartbeats 16000000 in
set_option maxRecDepth 1000000 in
theorem smallV_any (w : World) (hE : Env w) : Calls Tryz.prog 14 #[] w (BPost true w) := by
  have HN1 : Hq (∀ V, Below w.heap.size w V → Calls Tryz.prog 31 #[.int .i64 1] V (LeafPost 3 [49] V)) := hq (fun V hV => by have := vNum_any 1 V (hE.grow hV).its (by decide) (by decide); rwa [txt1] at this)
  have HN2 : Hq (∀ V, Below w.heap.size w V → Calls Tryz.prog 31 #[.int .i64 2] V (LeafPost 3 [50] V)) := hq (fun V hV => by have := vNum_any 2 V (hE.grow hV).its (by decide) (by decide); rwa [txt2] at this)
  have hn9 : Hq (∀ V, Below w.heap.size w V → Calls Tryz.prog 31 #[.int .i64 9] V (LeafPost 3 [57] V)) := hq (fun V hV => by have := vNum_any 9 V (hE.grow hV).its (by decide) (by decide); rwa [txt9] at this)
  have hn10 : Hq (∀ V, Below w.heap.size w V → Calls Tryz.prog 31 #[.int .i64 10] V (LeafPost 3 [49, 101, 49] V)) := hq (fun V hV => by have := vNum_any 10 V (hE.grow hV).its (by decide) (by decide); rwa [txt10] at this)
  have HE := hq hE
  clear hE
  go_enter Tryz.func14, Tryz.ntmps14
  go_upto_region 1 with fail
  go_wp2_with fail
  refine (HN1.o w (Below.refl _ _)).mono ?_
  rintro e w1 ⟨rfl, hb1⟩
  rw [leafT_v]
  have hb : Below w.heap.size w (w1.alloc (.cells #[.int .i64 3, .string (st [49]), .slice none 0 0, .slice none 0 0] 25)) := hb1.alloc (by have := hb1.size; omega) _
  have hW1 := Whole.made w1 25 #[.int .i64 3, .string (st [49]), .slice none 0 0, .slice none 0 0]
  clear hb1
  go_wp2_with fail
  refine (HN2.o _ hb).mono ?_
  rintro e w2 ⟨rfl, hb2⟩
  rw [leafT_v]
  replace hW1 := hW1.grow hb2
  replace hb := below_trans hb hb2
  clear hb2
  replace hb : Below w.heap.size w (w2.alloc (.cells #[.int .i64 3, .string (st [50]), .slice none 0 0, .slice none 0 0] 25)) := hb.alloc (by have := hb.size; (try simp only [World.size_alloc] at *); omega) _
  replace hW1 := hW1.alloc (.cells #[.int .i64 3, .string (st [50]), .slice none 0 0, .slice none 0 0] 25)
  have hW2 := Whole.made w2 25 #[.int .i64 3, .string (st [50]), .slice none 0 0, .slice none 0 0]
  try simp only [World.size_alloc] at hW2
  replace hb : Below w.heap.size w ((w2.alloc (.cells #[.int .i64 3, .string (st [50]), .slice none 0 0, .slice none 0 0] 25)).alloc (.cells #[.string ⟨#[97]⟩, .string ⟨#[98]⟩] 9)) := hb.alloc (by have := hb.size; (try simp only [World.size_alloc] at *); omega) _
  replace hW1 := hW1.alloc (.cells #[.string ⟨#[97]⟩, .string ⟨#[98]⟩] 9)
  replace hW2 := hW2.alloc (.cells #[.string ⟨#[97]⟩, .string ⟨#[98]⟩] 9)
  have hS1 := Whole.made (w2.alloc (.cells #[.int .i64 3, .string (st [50]), .slice none 0 0, .slice none 0 0] 25)) 9 #[.string ⟨#[97]⟩, .string ⟨#[98]⟩]
  try simp only [World.size_alloc] at hS1
  obtain ⟨a0, a1, a2, a3⟩ := four_cells hW1
  obtain ⟨b0, b1, b2, b3⟩ := four_cells hW2
  replace hb : Below w.heap.size w (((w2.alloc (.cells #[.int .i64 3, .string (st [50]), .slice none 0 0, .slice none 0 0] 25)).alloc (.cells #[.string ⟨#[97]⟩, .string ⟨#[98]⟩] 9)).alloc (.cells #[.int .i64 3, .string (st [49]), .slice none 0 0, .slice none 0 0, .int .i64 3, .string (st [50]), .slice none 0 0, .slice none 0 0] 25)) := hb.alloc (by have := hb.size; (try simp only [World.size_alloc] at *); omega) _
  replace hW1 := hW1.alloc (.cells #[.int .i64 3, .string (st [49]), .slice none 0 0, .slice none 0 0, .int .i64 3, .string (st [50]), .slice none 0 0, .slice none 0 0] 25)
  replace hW2 := hW2.alloc (.cells #[.int .i64 3, .string (st [49]), .slice none 0 0, .slice none 0 0, .int .i64 3, .string (st [50]), .slice none 0 0, .slice none 0 0] 25)
  replace hS1 := hS1.alloc (.cells #[.int .i64 3, .string (st [49]), .slice none 0 0, .slice none 0 0, .int .i64 3, .string (st [50]), .slice none 0 0, .slice none 0 0] 25)
  have hI1 := Whole.made ((w2.alloc (.cells #[.int .i64 3, .string (st [50]), .slice none 0 0, .slice none 0 0] 25)).alloc (.cells #[.string ⟨#[97]⟩, .string ⟨#[98]⟩] 9)) 25 #[.int .i64 3, .string (st [49]), .slice none 0 0, .slice none 0 0, .int .i64 3, .string (st [50]), .slice none 0 0, .slice none 0 0]
  try simp only [World.size_alloc] at hI1
  go_wp2_with fail
  refine (vMap_any _ _ _ _ _ _ _).mono ?_
  rintro e w3 ⟨rfl, hbw3⟩
  clear a0 a1 a2 a3 b0 b1 b2 b3
  replace hW1 := hW1.grow hbw3
  replace hW2 := hW2.grow hbw3
  replace hS1 := hS1.grow hbw3
  replace hI1 := hI1.grow hbw3
  replace hb := below_trans hb hbw3
  clear hbw3
  replace hb : Below w.heap.size w (w3.alloc (.cells #[.int .i64 6, .string ⟨#[]⟩, .slice (some ⟨w2.heap.size + 1, 0, none⟩) 2 2, .slice (some ⟨w2.heap.size + 1 + 1, 0, none⟩) 2 2] 25)) := hb.alloc (by have := hb.size; (try simp only [World.size_alloc] at *); omega) _
  replace hW1 := hW1.alloc (.cells #[.int .i64 6, .string ⟨#[]⟩, .slice (some ⟨w2.heap.size + 1, 0, none⟩) 2 2, .slice (some ⟨w2.heap.size + 1 + 1, 0, none⟩) 2 2] 25)
  replace hW2 := hW2.alloc (.cells #[.int .i64 6, .string ⟨#[]⟩, .slice (some ⟨w2.heap.size + 1, 0, none⟩) 2 2, .slice (some ⟨w2.heap.size + 1 + 1, 0, none⟩) 2 2] 25)
  replace hS1 := hS1.alloc (.cells #[.int .i64 6, .string ⟨#[]⟩, .slice (some ⟨w2.heap.size + 1, 0, none⟩) 2 2, .slice (some ⟨w2.heap.size + 1 + 1, 0, none⟩) 2 2] 25)
  replace hI1 := hI1.alloc (.cells #[.int .i64 6, .string ⟨#[]⟩, .slice (some ⟨w2.heap.size + 1, 0, none⟩) 2 2, .slice (some ⟨w2.heap.size + 1 + 1, 0, none⟩) 2 2] 25)
  have hX := Whole.made w3 25 #[.int .i64 6, .string ⟨#[]⟩, .slice (some ⟨w2.heap.size + 1, 0, none⟩) 2 2, .slice (some ⟨w2.heap.size + 1 + 1, 0, none⟩) 2 2]
  try simp only [World.size_alloc] at hX
  replace hb : Below w.heap.size w ((w3.alloc (.cells #[.int .i64 6, .string ⟨#[]⟩, .slice (some ⟨w2.heap.size + 1, 0, none⟩) 2 2, .slice (some ⟨w2.heap.size + 1 + 1, 0, none⟩) 2 2] 25)).alloc (.cells #[.string ⟨#[98]⟩, .string ⟨#[97]⟩] 9)) := hb.alloc (by have := hb.size; (try simp only [World.size_alloc] at *); omega) _
  replace hW1 := hW1.alloc (.cells #[.string ⟨#[98]⟩, .string ⟨#[97]⟩] 9)
  replace hW2 := hW2.alloc (.cells #[.string ⟨#[98]⟩, .string ⟨#[97]⟩] 9)
  replace hS1 := hS1.alloc (.cells #[.string ⟨#[98]⟩, .string ⟨#[97]⟩] 9)
  replace hI1 := hI1.alloc (.cells #[.string ⟨#[98]⟩, .string ⟨#[97]⟩] 9)
  replace hX := hX.alloc (.cells #[.string ⟨#[98]⟩, .string ⟨#[97]⟩] 9)
  have hS2 := Whole.made (w3.alloc (.cells #[.int .i64 6, .string ⟨#[]⟩, .slice (some ⟨w2.heap.size + 1, 0, none⟩) 2 2, .slice (some ⟨w2.heap.size + 1 + 1, 0, none⟩) 2 2] 25)) 9 #[.string ⟨#[98]⟩, .string ⟨#[97]⟩]
  try simp only [World.size_alloc] at hS2
  obtain ⟨a0, a1, a2, a3⟩ := four_cells hW1
  obtain ⟨b0, b1, b2, b3⟩ := four_cells hW2
  replace hb : Below w.heap.size w (((w3.alloc (.cells #[.int .i64 6, .string ⟨#[]⟩, .slice (some ⟨w2.heap.size + 1, 0, none⟩) 2 2, .slice (some ⟨w2.heap.size + 1 + 1, 0, none⟩) 2 2] 25)).alloc (.cells #[.string ⟨#[98]⟩, .string ⟨#[97]⟩] 9)).alloc (.cells #[.int .i64 3, .string (st [50]), .slice none 0 0, .slice none 0 0, .int .i64 3, .string (st [49]), .slice none 0 0, .slice none 0 0] 25)) := hb.alloc (by have := hb.size; (try simp only [World.size_alloc] at *); omega) _
  replace hW1 := hW1.alloc (.cells #[.int .i64 3, .string (st [50]), .slice none 0 0, .slice none 0 0, .int .i64 3, .string (st [49]), .slice none 0 0, .slice none 0 0] 25)
  replace hW2 := hW2.alloc (.cells #[.int .i64 3, .string (st [50]), .slice none 0 0, .slice none 0 0, .int .i64 3, .string (st [49]), .slice none 0 0, .slice none 0 0] 25)
  replace hS1 := hS1.alloc (.cells #[.int .i64 3, .string (st [50]), .slice none 0 0, .slice none 0 0, .int .i64 3, .string (st [49]), .slice none 0 0, .slice none 0 0] 25)
  replace hI1 := hI1.alloc (.cells #[.int .i64 3, .string (st [50]), .slice none 0 0, .slice none 0 0, .int .i64 3, .string (st [49]), .slice none 0 0, .slice none 0 0] 25)
  replace hX := hX.alloc (.cells #[.int .i64 3, .string (st [50]), .slice none 0 0, .slice none 0 0, .int .i64 3, .string (st [49]), .slice none 0 0, .slice none 0 0] 25)
  replace hS2 := hS2.alloc (.cells #[.int .i64 3, .string (st [50]), .slice none 0 0, .slice none 0 0, .int .i64 3, .string (st [49]), .slice none 0 0, .slice none 0 0] 25)
  have hI2 := Whole.made ((w3.alloc (.cells #[.int .i64 6, .string ⟨#[]⟩, .slice (some ⟨w2.heap.size + 1, 0, none⟩) 2 2, .slice (some ⟨w2.heap.size + 1 + 1, 0, none⟩) 2 2] 25)).alloc (.cells #[.string ⟨#[98]⟩, .string ⟨#[97]⟩] 9)) 25 #[.int .i64 3, .string (st [50]), .slice none 0 0, .slice none 0 0, .int .i64 3, .string (st [49]), .slice none 0 0, .slice none 0 0]
  try simp only [World.size_alloc] at hI2
  go_wp2_with fail
  refine (vMap_any _ _ _ _ _ _ _).mono ?_
  rintro e w4 ⟨rfl, hbw4⟩
  clear a0 a1 a2 a3 b0 b1 b2 b3
  replace hW1 := hW1.grow hbw4
  replace hW2 := hW2.grow hbw4
  replace hS1 := hS1.grow hbw4
  replace hI1 := hI1.grow hbw4
  replace hX := hX.grow hbw4
  replace hS2 := hS2.grow hbw4
  replace hI2 := hI2.grow hbw4
  replace hb := below_trans hb hbw4
  clear hbw4
  replace hb : Below w.heap.size w (w4.alloc (.cells #[.int .i64 6, .string ⟨#[]⟩, .slice (some ⟨w3.heap.size + 1, 0, none⟩) 2 2, .slice (some ⟨w3.heap.size + 1 + 1, 0, none⟩) 2 2] 25)) := hb.alloc (by have := hb.size; (try simp only [World.size_alloc] at *); omega) _
  replace hW1 := hW1.alloc (.cells #[.int .i64 6, .string ⟨#[]⟩, .slice (some ⟨w3.heap.size + 1, 0, none⟩) 2 2, .slice (some ⟨w3.heap.size + 1 + 1, 0, none⟩) 2 2] 25)
  replace hW2 := hW2.alloc (.cells #[.int .i64 6, .string ⟨#[]⟩, .slice (some ⟨w3.heap.size + 1, 0, none⟩) 2 2, .slice (some ⟨w3.heap.size + 1 + 1, 0, none⟩) 2 2] 25)
  replace hS1 := hS1.alloc (.cells #[.int .i64 6, .string ⟨#[]⟩, .slice (some ⟨w3.heap.size + 1, 0, none⟩) 2 2, .slice (some ⟨w3.heap.size + 1 + 1, 0, none⟩) 2 2] 25)
  replace hI1 := hI1.alloc (.cells #[.int .i64 6, .string ⟨#[]⟩, .slice (some ⟨w3.heap.size + 1, 0, none⟩) 2 2, .slice (some ⟨w3.heap.size + 1 + 1, 0, none⟩) 2 2] 25)
  replace hX := hX.alloc (.cells #[.int .i64 6, .string ⟨#[]⟩, .slice (some ⟨w3.heap.size + 1, 0, none⟩) 2 2, .slice (some ⟨w3.heap.size + 1 + 1, 0, none⟩) 2 2] 25)
  replace hS2 := hS2.alloc (.cells #[.int .i64 6, .string ⟨#[]⟩, .slice (some ⟨w3.heap.size + 1, 0, none⟩) 2 2, .slice (some ⟨w3.heap.size + 1 + 1, 0, none⟩) 2 2] 25)
  replace hI2 := hI2.alloc (.cells #[.int .i64 6, .string ⟨#[]⟩, .slice (some ⟨w3.heap.size + 1, 0, none⟩) 2 2, .slice (some ⟨w3.heap.size + 1 + 1, 0, none⟩) 2 2] 25)
  have hY := Whole.made w4 25 #[.int .i64 6, .string ⟨#[]⟩, .slice (some ⟨w3.heap.size + 1, 0, none⟩) 2 2, .slice (some ⟨w3.heap.size + 1 + 1, 0, none⟩) 2 2]
  try simp only [World.size_alloc] at hY
  go_upto_region 5 with fail
  have hT0 : Pk w w1.heap.size w2.heap.size w3.heap.size w4.heap.size _ := ⟨hb, hW1, hW2, hS1, hI1, hX, hS2, hI2, hY⟩
  clear hb hW1 hW2 hS1 hI1 hX hS2 hI2 hY
  generalize (w4.alloc _) = W0 at *
  generalize w1.heap.size = g1 at *
  generalize w2.heap.size = g2 at *
  generalize w3.heap.size = g3 at *
  generalize w4.heap.size = g4 at *
  clear w1 w2 w3 w4
  obtain ⟨a0, a1, a2, a3⟩ := four_cells hT0.o1
  obtain ⟨b0, b1, b2, b3⟩ := four_cells hT0.o2
  have HGET : Hq (∀ V, Pk w g1 g2 g3 g4 V → Calls Tryz.prog 17 #[.agg #[.int .i64 6, .string ⟨#[]⟩, .slice (some ⟨g2 + 1, 0, none⟩) 2 2, .slice (some ⟨g2 + 1 + 1, 0, none⟩) 2 2], .string ⟨#[98]⟩] V (GetB V)) := hq (fun V h => by
    have := vGet_any (xT g2) [98] V (HE.o.grow h.lo) (xT_fine h.k1 h.i1)
    rw [xT_m, cx_get] at this
    refine this.mono ?_
    rintro e V' ⟨⟨k, t, ⟨ko, kc, kl⟩, o, c, is⟩, rfl, _, hm, hb⟩
    rw [Vt.m_mk] at hm
    have hm : Vl.mk k t kl (is.map Vt.m) = Vl.mk 3 [50] [] [] := hm
    injection hm with e1 e2 e3 e4
    obtain rfl := List.map_eq_nil_iff.1 e4
    subst e1 e2 e3
    exact ⟨ko, kc, o, c, rfl, hb⟩)
  go_cut [5] from 20 to 25 (fun a wx => ∃ g5 gi gj : Nat, a = .pointer (some ⟨g5, 0, none⟩) ∧ Hq (Pk w g1 g2 g3 g4 wx) ∧ Hq (Whole wx g5 25 #[.int .i64 5, .string ⟨#[]⟩, .slice none 0 0, .slice (some ⟨gi, 0, none⟩) 2 2]) ∧ Hq (Whole wx gi 25 #[.int .i64 3, .string (st [49]), .slice none 0 0, .slice none 0 0, .int .i64 5, .string ⟨#[]⟩, .slice none 0 0, .slice (some ⟨gj, 0, none⟩) 1 1]) ∧ Hq (Whole wx gj 25 #[.int .i64 3, .string (st [50]), .slice none 0 0, .slice none 0 0]))
  · go_region_held3 (fun W => Pk w g1 g2 g3 g4 W ∧ (W.cell? ⟨g1, 0, none⟩ = some (.int .i64 3) ∧ W.cell? ⟨g1, 1, none⟩ = some (.string (st [49])) ∧ W.cell? ⟨g1, 2, none⟩ = some (.slice none 0 0) ∧ W.cell? ⟨g1, 3, none⟩ = some (.slice none 0 0)) ∧ (W.cell? ⟨g2, 0, none⟩ = some (.int .i64 3) ∧ W.cell? ⟨g2, 1, none⟩ = some (.string (st [50])) ∧ W.cell? ⟨g2, 2, none⟩ = some (.slice none 0 0) ∧ W.cell? ⟨g2, 3, none⟩ = some (.slice none 0 0))) ((refine (fun h : Pk w g1 g2 g3 g4 _ => ⟨h, four_cells h.o1, four_cells h.o2⟩) ?_; first | exact hT0 | exact hT0.drew | exact hT2 | exact hT2.drew | exact (Pk.alloc (And.left (by assumption)) _).drew | exact Pk.alloc (And.left (by assumption)) _ | exact Pk.alloc (Pk.drew (And.left (by assumption))) _ | exact Pk.alloc hT2 _ | exact (Pk.alloc hT2 _).drew | exact Pk.put4 hT2 hT0 (by (try simp only [World.size_alloc, World.drew] at *); omega) _ _ _ _)) ((go_at_call 41; refine (vRow_any _ _ _ _).mono ?_; rintro e v ⟨rfl, hb2⟩; have hT2 : Pk w g1 g2 g3 g4 v := Pk.grow (And.left (by assumption)) hb2; have hsz := hb2.size; (try simp only [World.size_alloc, World.drew] at hsz); (try ((first | have hj := Whole.grow (Whole.alloc (Whole.alloc hj _) _) hb2 | have hj := Whole.grow (Whole.alloc hj _) hb2 | have hj := Whole.grow hj hb2 | have hj := Whole.grow (Whole.made _ 25 #[.int .i64 3, .string (st [50]), .slice none 0 0, .slice none 0 0]) hb2 | have hj := Whole.grow (Whole.alloc (Whole.made _ 25 #[.int .i64 3, .string (st [50]), .slice none 0 0, .slice none 0 0]) _) hb2 | have hj := Whole.grow (whole_dr (Whole.made _ 25 #[.int .i64 3, .string (st [50]), .slice none 0 0, .slice none 0 0])) hb2 | have hj := Whole.grow (whole_dr (Whole.alloc (Whole.made _ 25 #[.int .i64 3, .string (st [50]), .slice none 0 0, .slice none 0 0]) _)) hb2); (try simp only [World.size_alloc] at hj))); (try ((first | have hi := Whole.grow (Whole.alloc hi _) hb2 | have hi := Whole.grow hi hb2 | have hi := Whole.grow (Whole.made _ 25 #[.int .i64 3, .string (st [49]), .slice none 0 0, .slice none 0 0, .int .i64 5, .string ⟨#[]⟩, .slice none 0 0, .slice (some ⟨_, 0, none⟩) 1 1]) hb2 | have hi := Whole.grow (Whole.alloc (Whole.made _ 25 #[.int .i64 3, .string (st [49]), .slice none 0 0, .slice none 0 0, .int .i64 5, .string ⟨#[]⟩, .slice none 0 0, .slice (some ⟨_, 0, none⟩) 1 1]) _) hb2 | have hi := Whole.grow (whole_dr (Whole.made _ 25 #[.int .i64 3, .string (st [49]), .slice none 0 0, .slice none 0 0, .int .i64 5, .string ⟨#[]⟩, .slice none 0 0, .slice (some ⟨_, 0, none⟩) 1 1])) hb2 | have hi := Whole.grow (whole_dr (Whole.alloc (Whole.made _ 25 #[.int .i64 3, .string (st [49]), .slice none 0 0, .slice none 0 0, .int .i64 5, .string ⟨#[]⟩, .slice none 0 0, .slice (some ⟨_, 0, none⟩) 1 1]) _)) hb2); (try simp only [World.size_alloc] at hi))); try ((first | have hz := Whole.grow (Whole.alloc hz _) hb2 | have hz := Whole.grow (Whole.made _ 25 #[.int .i64 0, .string ⟨#[]⟩, .slice none 0 0, .slice none 0 0]) hb2 | have hz := Whole.grow (Whole.alloc (Whole.made _ 25 #[.int .i64 0, .string ⟨#[]⟩, .slice none 0 0, .slice none 0 0]) _) hb2 | have hz := Whole.grow (whole_dr (Whole.made _ 25 #[.int .i64 0, .string ⟨#[]⟩, .slice none 0 0, .slice none 0 0])) hb2 | have hz := Whole.grow (whole_dr (Whole.alloc (Whole.made _ 25 #[.int .i64 0, .string ⟨#[]⟩, .slice none 0 0, .slice none 0 0]) _)) hb2); (try simp only [World.size_alloc] at hz); obtain ⟨z0, z1, z2, z3⟩ := four_cells hz; have z4 := hz.free 0; have z5 := hz.free 1; have z6 := hz.free 2; have z7 := hz.free 3)))
    all_goals go_wp2_with fail
    all_goals go_meet
    · exact ⟨_, _, _, rfl, hq (Pk.alloc hT2 _), hq (Whole.made _ _ _), hq (Whole.alloc hi _), hq (Whole.alloc hj _)⟩
    all_goals
      refine ⟨_, _, _, rfl, hq (Pk.put4 hT2 hT0 ?_ _ _ _ _), hq (whole_put4 hz _ _ _ _), hq (whole_far4 hi ?_ _ _ _ _), hq (whole_far4 hj ?_ _ _ _ _)⟩
      all_goals omega
  case rest =>
    obtain ⟨g5, gi, gj, rfl, HT, H5, HI, HJ⟩ := hcut
    obtain ⟨x0, x1, x2, x3⟩ := four_cells HT.o.x
    go_wp2_with fail
    refine (HGET.o wc HT.o).mono ?_
    rintro e w6 ⟨ko, kc, o, c, rfl, hb6⟩
    have HQ : Hq (Pq w g1 g2 g3 g4 g5 gi gj w6.heap.size #[.int .i64 3, .string (st [50]), .slice ko 0 kc, .slice o 0 c] (w6.alloc (.cells #[.int .i64 3, .string (st [50]), .slice ko 0 kc, .slice o 0 c] 25))) := hq ⟨(HT.o.grow hb6).alloc _, (H5.o.grow hb6).alloc _, (HI.o.grow hb6).alloc _, (HJ.o.grow hb6).alloc _, Whole.made _ _ _⟩
    clear HT H5 HI HJ hb6 HGET x0 x1 x2 x3
    go_upto_region 7 with fail
    generalize (w6.alloc _) = W7 at *
    generalize w6.heap.size = g6 at *
    have HG6 : Hq (∀ V, Pq w g1 g2 g3 g4 g5 gi gj g6 #[.int .i64 3, .string (st [50]), .slice ko 0 kc, .slice o 0 c] V → V.cell? ⟨g6, 1, none⟩ = some (.string (st [50]))) := hq (fun V h => h.g.at_ 1)
    generalize (#[.int .i64 3, .string (st [50]), .slice ko 0 kc, .slice o 0 c] : Array Value) = GV at *
    clear w6
    have hT1 := HQ.o
    clear HQ
    have HRI : Hq (∀ V, Pq w g1 g2 g3 g4 g5 gi gj g6 GV V → Calls Tryz.prog 21 #[.agg #[.int .i64 6, .string ⟨#[]⟩, .slice (some ⟨g2 + 1, 0, none⟩) 2 2, .slice (some ⟨g2 + 1 + 1, 0, none⟩) 2 2]] V (BPost true V)) := hq (fun V h => by
      have hf := xT_fine h.pk.k1 h.pk.i1
      have := vright_any (xT g2) V (HE.o.grow h.pk.lo) hf.ok hf.lim (Nat.le_trans hf.sz (by decide))
      rwa [xT_m, cx_right] at this)
    have HSA : Hq (∀ V, Pq w g1 g2 g3 g4 g5 gi gj g6 GV V → Calls Tryz.prog 37 #[.agg #[.int .i64 6, .string ⟨#[]⟩, .slice (some ⟨g2 + 1, 0, none⟩) 2 2, .slice (some ⟨g2 + 1 + 1, 0, none⟩) 2 2], .agg #[.int .i64 6, .string ⟨#[]⟩, .slice (some ⟨g3 + 1, 0, none⟩) 2 2, .slice (some ⟨g3 + 1 + 1, 0, none⟩) 2 2]] V (BPost true V)) := hq (fun V h => by
      have := vSame_any (xT g2) (yT g3) V (HE.o.grow h.pk.lo) (xT_fine h.pk.k1 h.pk.i1) (yT_fine h.pk.k2 h.pk.i2)
      rwa [xT_m, yT_m, cx_same] at this)
    have HCM : Hq (∀ V A B, ((∃ ga gb : Nat, Whole V ga 25 #[.int .i64 3, .string (st [49]), .slice none 0 0, .slice none 0 0] ∧ Whole V gb 25 #[.int .i64 3, .string (st [49]), .slice none 0 0, .slice none 0 0, .int .i64 3, .string (st [50]), .slice none 0 0, .slice none 0 0] ∧ A = .agg #[.int .i64 5, .string ⟨#[]⟩, .slice none 0 0, .slice (some ⟨ga, 0, none⟩) 1 1] ∧ B = .agg #[.int .i64 5, .string ⟨#[]⟩, .slice none 0 0, .slice (some ⟨gb, 0, none⟩) 2 2]) ∨ (A = .agg #[.int .i64 3, .string (st [57]), .slice none 0 0, .slice none 0 0] ∧ B = .agg #[.int .i64 3, .string (st [49, 101, 49]), .slice none 0 0, .slice none 0 0])) → Pq w g1 g2 g3 g4 g5 gi gj g6 GV V → Calls Tryz.prog 39 #[A, B] V (IPost (-1) V)) := hq (fun V A B hor h => by
      rcases hor with ⟨ga, gb, ha, hb, rfl, rfl⟩ | ⟨rfl, rfl⟩
      · have := vCompare_any (rT ga) (rT2 gb) V (HE.o.grow h.pk.lo) (rT_fine ha) (rT2_fine hb)
        rwa [rT_m, rT2_m, cx_rows] at this
      · have := vCompare_any (leafT 3 [57]) (leafT 3 [49, 101, 49]) V (HE.o.grow h.pk.lo) (leaf_fine V (by decide)) (leaf_fine V (by decide))
        rwa [leaf_m, leaf_m, cx_nums] at this)
    have HN9 : Hq (∀ V, Pq w g1 g2 g3 g4 g5 gi gj g6 GV V → Calls Tryz.prog 31 #[.int .i64 9] V (LeafPost 3 [57] V)) := hq (fun V h => hn9.o V h.pk.lo)
    have HN10 : Hq (∀ V, Pq w g1 g2 g3 g4 g5 gi gj g6 GV V → Calls Tryz.prog 31 #[.int .i64 10] V (LeafPost 3 [49, 101, 49] V)) := hq (fun V h => hn10.o V h.pk.lo)
    have HSZ : Hq (∀ V, Pq w g1 g2 g3 g4 g5 gi gj g6 GV V → Calls Tryz.prog 25 #[.agg #[.int .i64 5, .string ⟨#[]⟩, .slice none 0 0, .slice (some ⟨gi, 0, none⟩) 2 2]] V (IPost 4 V)) := hq (fun V h => by
      have := vsize_any (zT gi gj) V (zT_ok h.zi h.zj) (by rw [zT_m, cx_size]; decide)
      rwa [zT_m, cx_size] at this)
    have HDP : Hq (∀ V, Pq w g1 g2 g3 g4 g5 gi gj g6 GV V → Calls Tryz.prog 27 #[.agg #[.int .i64 5, .string ⟨#[]⟩, .slice none 0 0, .slice (some ⟨gi, 0, none⟩) 2 2]] V (IPost 3 V)) := hq (fun V h => by
      have := vdepth_any (zT gi gj) V (zT_ok h.zi h.zj) (by rw [zT_m, cx_size]; decide)
      rwa [zT_m, cx_depth] at this)
    have HSO : Hq (∀ V, Pq w g1 g2 g3 g4 g5 gi gj g6 GV V → Calls Tryz.prog 33 #[.agg #[.int .i64 6, .string ⟨#[]⟩, .slice (some ⟨g3 + 1, 0, none⟩) 2 2, .slice (some ⟨g3 + 1 + 1, 0, none⟩) 2 2]] V (SrtB V)) := hq (fun V h => by
      have := vSorted_any (yT g3) V (HE.o.grow h.pk.lo) (yT_fine h.pk.k2 h.pk.i2)
      rw [yT_m, cx_sort] at this
      refine this.mono ?_
      rintro e V' ⟨y, rfl, ho, hm, hb⟩
      exact ⟨y.v, rfl, hq ⟨y, rfl, ho.ok (by rw [hm]; exact rng_x), hm⟩, hb⟩)
    have HEQ : Hq (∀ V a, Hq (IsX a V) → Pq w g1 g2 g3 g4 g5 gi gj g6 GV V → Calls Tryz.prog 19 #[a, .agg #[.int .i64 6, .string ⟨#[]⟩, .slice (some ⟨g2 + 1, 0, none⟩) 2 2, .slice (some ⟨g2 + 1 + 1, 0, none⟩) 2 2]] V (BPost true V)) := hq (fun V a ha h => by
      obtain ⟨y, rfl, hok, hm⟩ := ha.o
      refine (equal_any y (xT g2) V hok (xT_fine h.pk.k1 h.pk.i1).ok).mono ?_
      rintro e V' ⟨v, rfl, hv, hb⟩
      have : v = true := hv.2 (by rw [hm, xT_m])
      subst this
      exact ⟨rfl, hb⟩)
    clear HE HN1 HN2 hn9 hn10
    have hfd : ∀ W : World, (Instr.field 25 (.agg #[.int .i64 4, .string (st [97]), .slice none 0 0, .slice none 0 0]) 0).run Tryz.prog W = .ok (.int .i64 4) W := fun _ => by kernel_rfl
    go_region_held3 (fun W => Pq w g1 g2 g3 g4 g5 gi gj g6 GV W ∧ (W.cell? ⟨g1, 0, none⟩ = some (.int .i64 3) ∧ W.cell? ⟨g1, 1, none⟩ = some (.string (st [49])) ∧ W.cell? ⟨g1, 2, none⟩ = some (.slice none 0 0) ∧ W.cell? ⟨g1, 3, none⟩ = some (.slice none 0 0)) ∧ (W.cell? ⟨g2, 0, none⟩ = some (.int .i64 3) ∧ W.cell? ⟨g2, 1, none⟩ = some (.string (st [50])) ∧ W.cell? ⟨g2, 2, none⟩ = some (.slice none 0 0) ∧ W.cell? ⟨g2, 3, none⟩ = some (.slice none 0 0)) ∧ (W.cell? ⟨g3, 0, none⟩ = some (.int .i64 6) ∧ W.cell? ⟨g3, 1, none⟩ = some (.string ⟨#[]⟩) ∧ W.cell? ⟨g3, 2, none⟩ = some (.slice (some ⟨g2 + 1, 0, none⟩) 2 2) ∧ W.cell? ⟨g3, 3, none⟩ = some (.slice (some ⟨g2 + 1 + 1, 0, none⟩) 2 2)) ∧ (W.cell? ⟨g4, 0, none⟩ = some (.int .i64 6) ∧ W.cell? ⟨g4, 1, none⟩ = some (.string ⟨#[]⟩) ∧ W.cell? ⟨g4, 2, none⟩ = some (.slice (some ⟨g3 + 1, 0, none⟩) 2 2) ∧ W.cell? ⟨g4, 3, none⟩ = some (.slice (some ⟨g3 + 1 + 1, 0, none⟩) 2 2)) ∧ (W.cell? ⟨g5, 0, none⟩ = some (.int .i64 5) ∧ W.cell? ⟨g5, 1, none⟩ = some (.string ⟨#[]⟩) ∧ W.cell? ⟨g5, 2, none⟩ = some (.slice none 0 0) ∧ W.cell? ⟨g5, 3, none⟩ = some (.slice (some ⟨gi, 0, none⟩) 2 2)) ∧ W.cell? ⟨g6, 1, none⟩ = some (.string (st [50]))) ((refine (fun h : Pq w g1 g2 g3 g4 g5 gi gj g6 GV _ => ⟨h, four_cells h.pk.o1, four_cells h.pk.o2, four_cells h.pk.x, four_cells h.pk.y, four_cells h.z, HG6.o _ h⟩) ?_; first | exact hT1 | exact hT1.drew | exact hT2 | exact hT2.drew | exact Pq.alloc hT1 _ | exact Pq.alloc hT2 _ | exact Pq.alloc hT2.drew _ | exact (Pq.alloc hT2 _).drew | exact Pq.alloc (And.left (by assumption)) _ | exact (Pq.alloc (And.left (by assumption)) _).drew)) (first | (go_at_call 21; (with_reducible refine (HRI.o _ (And.left (by assumption))).mono ?_); rintro e v ⟨rfl, hb2⟩; have hT2 : Pq w g1 g2 g3 g4 g5 gi gj g6 GV v := Pq.grow (And.left (by assumption)) hb2) | (go_at_call 37; (with_reducible refine (HSA.o _ (And.left (by assumption))).mono ?_); rintro e v ⟨rfl, hb2⟩; have hT2 : Pq w g1 g2 g3 g4 g5 gi gj g6 GV v := Pq.grow (And.left (by assumption)) hb2) | (go_at_call 41; (with_reducible refine (vRow_any _ _ _ _).mono ?_); rintro e v ⟨rfl, hb2⟩; have hT2 : Pq w g1 g2 g3 g4 g5 gi gj g6 GV v := Pq.grow (And.left (by assumption)) hb2; (try ((first | have hA := Whole.grow hA hb2 | have hA := Whole.grow (Whole.alloc hA _) hb2 | have hA := Whole.grow (Whole.made _ 25 #[.int .i64 3, .string (st [49]), .slice none 0 0, .slice none 0 0]) hb2 | have hA := Whole.grow (Whole.alloc (Whole.made _ 25 #[.int .i64 3, .string (st [49]), .slice none 0 0, .slice none 0 0]) _) hb2 | have hA := Whole.grow (whole_dr (Whole.made _ 25 #[.int .i64 3, .string (st [49]), .slice none 0 0, .slice none 0 0])) hb2 | have hA := Whole.grow (whole_dr (Whole.alloc (Whole.made _ 25 #[.int .i64 3, .string (st [49]), .slice none 0 0, .slice none 0 0]) _)) hb2 | have hA := Whole.grow (whole_dr (Whole.alloc hA _)) hb2); (try simp only [World.size_alloc] at hA))); (try ((first | have hB := Whole.grow hB hb2 | have hB := Whole.grow (Whole.alloc hB _) hb2 | have hB := Whole.grow (Whole.made _ 25 #[.int .i64 3, .string (st [49]), .slice none 0 0, .slice none 0 0, .int .i64 3, .string (st [50]), .slice none 0 0, .slice none 0 0]) hb2 | have hB := Whole.grow (Whole.alloc (Whole.made _ 25 #[.int .i64 3, .string (st [49]), .slice none 0 0, .slice none 0 0, .int .i64 3, .string (st [50]), .slice none 0 0, .slice none 0 0]) _) hb2 | have hB := Whole.grow (whole_dr (Whole.made _ 25 #[.int .i64 3, .string (st [49]), .slice none 0 0, .slice none 0 0, .int .i64 3, .string (st [50]), .slice none 0 0, .slice none 0 0])) hb2 | have hB := Whole.grow (whole_dr (Whole.alloc (Whole.made _ 25 #[.int .i64 3, .string (st [49]), .slice none 0 0, .slice none 0 0, .int .i64 3, .string (st [50]), .slice none 0 0, .slice none 0 0]) _)) hb2 | have hB := Whole.grow (whole_dr (Whole.alloc hB _)) hb2); (try simp only [World.size_alloc] at hB)))) | (go_at_call 39; (with_reducible refine (HCM.o _ _ _ (by first | exact .inl ⟨_, _, hA, hB, rfl, rfl⟩ | exact .inr ⟨rfl, rfl⟩) (And.left (by assumption))).mono ?_); rintro e v ⟨rfl, hb2⟩; have hT2 : Pq w g1 g2 g3 g4 g5 gi gj g6 GV v := Pq.grow (And.left (by assumption)) hb2) | (go_at_call 31; (with_reducible refine (HN9.o _ (And.left (by assumption))).mono ?_); rintro e v ⟨rfl, hb2⟩; have hT2 : Pq w g1 g2 g3 g4 g5 gi gj g6 GV v := Pq.grow (And.left (by assumption)) hb2; rw [leafT_v]) | (go_at_call 31; (with_reducible refine (HN10.o _ (And.left (by assumption))).mono ?_); rintro e v ⟨rfl, hb2⟩; have hT2 : Pq w g1 g2 g3 g4 g5 gi gj g6 GV v := Pq.grow (And.left (by assumption)) hb2; rw [leafT_v]) | (go_at_call 25; (with_reducible refine (HSZ.o _ (And.left (by assumption))).mono ?_); rintro e v ⟨rfl, hb2⟩; have hT2 : Pq w g1 g2 g3 g4 g5 gi gj g6 GV v := Pq.grow (And.left (by assumption)) hb2) | (go_at_call 27; (with_reducible refine (HDP.o _ (And.left (by assumption))).mono ?_); rintro e v ⟨rfl, hb2⟩; have hT2 : Pq w g1 g2 g3 g4 g5 gi gj g6 GV v := Pq.grow (And.left (by assumption)) hb2) | (go_at_call 33; (with_reducible refine (HSO.o _ (And.left (by assumption))).mono ?_); rintro e v ⟨a, rfl, HIX, hb2⟩; have hT2 : Pq w g1 g2 g3 g4 g5 gi gj g6 GV v := Pq.grow (And.left (by assumption)) hb2) | (go_at_call 19; (with_reducible refine (HEQ.o _ _ HIX (And.left (by assumption))).mono ?_); rintro e v ⟨rfl, hb2⟩; have hT2 : Pq w g1 g2 g3 g4 g5 gi gj g6 GV v := Pq.grow (And.left (by assumption)) hb2) | (go_at_call 29; (with_reducible refine (vOf_any _ _).mono ?_); rintro e v ⟨rfl, hb2⟩; have hT2 : Pq w g1 g2 g3 g4 g5 gi gj g6 GV v := Pq.grow (And.left (by assumption)) hb2; rw [leafT_v]))
    all_goals go_wp2_with fail
    all_goals (go_ret; exact ⟨rfl, hT2.pk.lo⟩)
end Go.Proofs.YtfibmmmbpfnccaaGreatDoor
