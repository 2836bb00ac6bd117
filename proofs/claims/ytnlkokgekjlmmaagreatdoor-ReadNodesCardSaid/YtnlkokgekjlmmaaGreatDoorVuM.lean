/-
  WALK: small of layer 6, its first six regions.
-/
import Derived.Test.YtnlkokgekjlmmaaGreatDoorVtUB
namespace Go.Proofs.YtnlkokgekjlmmaaGreatDoor
open Go.RowKit
def lfC (k : Int) (t : Bs) : Array Value := #[.int .i64 k, .string (st t), .slice none 0 0, .slice none 0 0]
theorem whole_items {W : World} {g : Nat} {T : TypeId} {l : List Vt} {cs : Array Value} (h : Whole W g T cs) (hc : cs = (vtC l).toArray) : ∀ i (hi : i < l.length), ∃ b f, (some ⟨g, 0, none⟩ : Option Addr) = some ⟨b, f, none⟩ ∧ ItemAt W b (f + i * 4) l[i] := fun i hi => by
 subst hc
 obtain ⟨h0, h1, h2, h3⟩ := vtC_at l i hi
 have e : ∀ j u, (vtC l)[j]? = some u → W.cell? ⟨g, 0 + j, none⟩ = some u := fun j u hu => by
  rw [Nat.zero_add, h.at_ j]; simpa using hu
 exact ⟨g, 0, rfl, ⟨e _ _ h0, e _ _ h1, e _ _ h2, e _ _ h3⟩⟩
theorem whole_strs {W : World} {g : Nat} {T : TypeId} {l : List Bs} {cs : Array Value} (h : Whole W g T cs) (hc : cs = (strC l).toArray) : StrsIn W (some ⟨g, 0, none⟩) l := fun i hi => by
 subst hc
 refine ⟨g, 0, rfl, ?_⟩
 rw [Nat.zero_add, h.at_ i]
 simp [strC, hi]
theorem leaf_ok (k : Int) (t : Bs) (W : World) (hk : -9223372036854775808 ≤ k ∧ k ≤ 9223372036854775807) (ht : t.length ≤ maxLen) : (leafT k t).Ok W :=
 .mk _ _ _ _ _ _ hk ht ⟨Nat.le_refl _, Nat.zero_le _, StrsIn.nil _ _⟩ (fun x hx => by cases hx) (Nat.le_refl _) (Nat.zero_le _) (fun i hi => absurd hi (Nat.not_lt_zero i)) (fun i hi => absurd hi (Nat.not_lt_zero i))
theorem arr_ok {W : World} {g : Nat} {T : TypeId} {l : List Vt} {cs : Array Value} (h : Whole W g T cs) (hc : cs = (vtC l).toArray) (hl : l.length ≤ 1000) (hok : ∀ x ∈ l, x.Ok W) : (Vt.mk 5 [] ⟨none, 0, []⟩ (some ⟨g, 0, none⟩) l.length l).Ok W :=
 .mk _ _ _ _ _ _ (by decide) (Nat.zero_le _) ⟨Nat.le_refl _, Nat.zero_le _, StrsIn.nil _ _⟩ (fun x hx => by cases hx) (Nat.le_refl _) (Nat.le_trans hl (by decide)) (whole_items h hc) (fun i hi => hok _ (List.getElem_mem hi))
structure Pk (w : World) (g1 g2 g3 g4 : Nat) (W : World) : Prop where
 lo : Below w.heap.size w W
 o1 : Whole W g1 25 #[.int .i64 3, .string (st [49]), .slice none 0 0, .slice none 0 0]
 o2 : Whole W g2 25 #[.int .i64 3, .string (st [50]), .slice none 0 0, .slice none 0 0]
 k1 : Whole W (g2 + 1) 9 #[.string ⟨#[97]⟩, .string ⟨#[98]⟩]
 i1 : Whole W (g2 + 1 + 1) 25 #[.int .i64 3, .string (st [49]), .slice none 0 0, .slice none 0 0, .int .i64 3, .string (st [50]), .slice none 0 0, .slice none 0 0]
 x : Whole W g3 25 #[.int .i64 6, .string ⟨#[]⟩, .slice (some ⟨g2 + 1, 0, none⟩) 2 2, .slice (some ⟨g2 + 1 + 1, 0, none⟩) 2 2]
 k2 : Whole W (g3 + 1) 9 #[.string ⟨#[98]⟩, .string ⟨#[97]⟩]
 i2 : Whole W (g3 + 1 + 1) 25 #[.int .i64 3, .string (st [50]), .slice none 0 0, .slice none 0 0, .int .i64 3, .string (st [49]), .slice none 0 0, .slice none 0 0]
 y : Whole W g4 25 #[.int .i64 6, .string ⟨#[]⟩, .slice (some ⟨g3 + 1, 0, none⟩) 2 2, .slice (some ⟨g3 + 1 + 1, 0, none⟩) 2 2]
theorem Pk.grow {w W W' : World} {g1 g2 g3 g4 : Nat} (h : Pk w g1 g2 g3 g4 W) (hb : Below W.heap.size W W') : Pk w g1 g2 g3 g4 W' :=
 ⟨below_trans h.lo hb, h.o1.grow hb, h.o2.grow hb, h.k1.grow hb, h.i1.grow hb, h.x.grow hb, h.k2.grow hb, h.i2.grow hb, h.y.grow hb⟩
theorem Pk.drew {w W : World} {g1 g2 g3 g4 : Nat} (h : Pk w g1 g2 g3 g4 W) : Pk w g1 g2 g3 g4 W.drew := h.grow (Below.refl _ _).drew
theorem Pk.alloc {w W : World} {g1 g2 g3 g4 : Nat} (h : Pk w g1 g2 g3 g4 W) (ob : Obj) : Pk w g1 g2 g3 g4 (W.alloc ob) := h.grow (below_alloc W ob)
/-! ### what small asks, of trees -/
def oneL : Vl := .mk 3 [49] [] []
def twoL : Vl := .mk 3 [50] [] []
def xL : Vl := .mk 6 [] [[97], [98]] [oneL, twoL]
def yL : Vl := .mk 6 [] [[98], [97]] [twoL, oneL]
def zL : Vl := .mk 5 [] [] [oneL, .mk 5 [] [] [twoL]]
def xT (g2 : Nat) : Vt := .mk 6 [] ⟨some ⟨g2 + 1, 0, none⟩, 2, [[97], [98]]⟩ (some ⟨g2 + 1 + 1, 0, none⟩) 2 [leafT 3 [49], leafT 3 [50]]
def yT (g3 : Nat) : Vt := .mk 6 [] ⟨some ⟨g3 + 1, 0, none⟩, 2, [[98], [97]]⟩ (some ⟨g3 + 1 + 1, 0, none⟩) 2 [leafT 3 [50], leafT 3 [49]]
def rT (g : Nat) : Vt := .mk 5 [] ⟨none, 0, []⟩ (some ⟨g, 0, none⟩) 1 [leafT 3 [49]]
def rT2 (g : Nat) : Vt := .mk 5 [] ⟨none, 0, []⟩ (some ⟨g, 0, none⟩) 2 [leafT 3 [49], leafT 3 [50]]
def jT (g : Nat) : Vt := .mk 5 [] ⟨none, 0, []⟩ (some ⟨g, 0, none⟩) 1 [leafT 3 [50]]
def zT (gi gj : Nat) : Vt := .mk 5 [] ⟨none, 0, []⟩ (some ⟨gi, 0, none⟩) 2 [leafT 3 [49], jT gj]
theorem two_ok {a b : Vt} {W : World} (ha : a.Ok W) (hb : b.Ok W) : ∀ x ∈ [a, b], x.Ok W := fun x hx => by
 rcases List.mem_cons.1 hx with rfl | hx
 · exact ha
 · rw [List.mem_singleton.1 hx]; exact hb
structure Pq (w : World) (g1 g2 g3 g4 g5 gi gj g6 : Nat) (GV : Array Value) (W : World) : Prop where
 pk : Pk w g1 g2 g3 g4 W
 z : Whole W g5 25 #[.int .i64 5, .string ⟨#[]⟩, .slice none 0 0, .slice (some ⟨gi, 0, none⟩) 2 2]
 zi : Whole W gi 25 #[.int .i64 3, .string (st [49]), .slice none 0 0, .slice none 0 0, .int .i64 5, .string ⟨#[]⟩, .slice none 0 0, .slice (some ⟨gj, 0, none⟩) 1 1]
 zj : Whole W gj 25 #[.int .i64 3, .string (st [50]), .slice none 0 0, .slice none 0 0]
 g : Whole W g6 25 GV
theorem Pq.grow {w W W' : World} {g1 g2 g3 g4 g5 gi gj g6 : Nat} {GV : Array Value} (h : Pq w g1 g2 g3 g4 g5 gi gj g6 GV W) (hb : Below W.heap.size W W') : Pq w g1 g2 g3 g4 g5 gi gj g6 GV W' :=
 ⟨h.pk.grow hb, h.z.grow hb, h.zi.grow hb, h.zj.grow hb, h.g.grow hb⟩
theorem Pq.drew {w W : World} {g1 g2 g3 g4 g5 gi gj g6 : Nat} {GV : Array Value} (h : Pq w g1 g2 g3 g4 g5 gi gj g6 GV W) : Pq w g1 g2 g3 g4 g5 gi gj g6 GV W.drew := h.grow (Below.refl _ _).drew
theorem Pq.alloc {w W : World} {g1 g2 g3 g4 g5 gi gj g6 : Nat} {GV : Array Value} (h : Pq w g1 g2 g3 g4 g5 gi gj g6 GV W) (ob : Obj) : Pq w g1 g2 g3 g4 g5 gi gj g6 GV (W.alloc ob) := h.grow (below_alloc W ob)
def GetB (V : World) (e : Ending) (V' : World) : Prop := ∃ (ko : Option Addr) (kc : Nat) (o : Option Addr) (c : Nat), e = .returned (.tuple #[.agg #[.int .i64 3, .string (st [50]), .slice ko 0 kc, .slice o 0 c], .bool true]) ∧ Below V.heap.size V V'
def IsX (a : Value) (V : World) : Prop := ∃ y : Vt, a = y.v ∧ y.Ok V ∧ y.m = xL
def SrtB (V : World) (e : Ending) (V' : World) : Prop := ∃ a : Value, e = .returned a ∧ Hq (IsX a V') ∧ Below V.heap.size V V'
end Go.Proofs.YtnlkokgekjlmmaaGreatDoor
