/-
  WALKS: the function that the law LexWalks hands to lex.All's iterator.
-/
import Derived.StillTailTactics
import Derived.Laws.BitsLemmas
import Derived.Deep.RegionHeld3
import Derived.Test.YtinenhnfhdeidaaDoorLexY
import Derived.Test.YtinenhnfhdeidaaDoorLexS
namespace Go.Proofs.YtinenhnfhdeidaaDoor
open Go.RowKit

theorem i64_and63 (n : Int) : bits .and .i64 n 63 = n % 64 := by
  have h63 : (BitVec.ofInt 64 63).toNat = 2 ^ 6 - 1 := by decide
  have key : (BitVec.ofInt 64 n &&& BitVec.ofInt 64 63).toNat = (n % ((2 ^ 64 : Nat) : Int)).toNat % 2 ^ 6 := by
    rw [BitVec.toNat_and, BitVec.toNat_ofInt, h63, Nat.and_two_pow_sub_one_eq_mod]
  show IntKind.i64.wrap ((BitVec.ofInt 64 n &&& BitVec.ofInt 64 63).toNat : Nat) = n % 64
  rw [key, IntKind.wrap_i64]
  omega

/-- the law's boxes -/
def WalkPost (b : Nat) (n : Nat) (over : Bool) (w : World) (e : Ending) (w' : World) : Prop :=
  e = .returned (.bool (!over)) ∧ Whole w' b 3 #[.int .i64 ((n : Int) + 1)] ∧ Whole w' (b + 1) 4 #[.bool true] ∧ Whole w' (b + 1 + 1) 4 #[.bool over] ∧ Below b w w' ∧
    ∀ j, b + 1 + 1 < j → j < w.heap.size → w'.heap[j]? = w.heap[j]?

/-- the boxes in the middle of a call -/
structure WB (w0 w : World) (b bx : Nat) (n : Int) (fine over : Bool) (x : Array Value) : Prop where
  N : Whole w b 3 #[.int .i64 n]
  F : Whole w (b + 1) 4 #[.bool fine]
  O : Whole w (b + 1 + 1) 4 #[.bool over]
  X : Whole w bx 25 x
  bx : b + 1 + 1 < bx
  below : Below b w0 w
  rest : ∀ j, b + 1 + 1 < j → j < w0.heap.size → w.heap[j]? = w0.heap[j]?
section
variable {w0 w : World} {b bx : Nat} {n : Int} {fine over : Bool} {x : Array Value}
theorem WB.setF (h : WB w0 w b bx n fine over x) (u : Bool) : WB w0 (w.setCell ⟨b + 1, 0, none⟩ (.bool u)) b bx n u over x :=
  ⟨h.N.far (by simp) _, h.F.put 0 _, h.O.far (by simp) _, h.X.far (by have := h.bx; simp only; omega) _, h.bx, h.below.setCell (by simp) _, fun j h1 h2 => (Below.heap_setCell _ _ _ _ (by simp only; omega)).trans (h.rest j h1 h2)⟩
theorem WB.setO (h : WB w0 w b bx n fine over x) (u : Bool) : WB w0 (w.setCell ⟨b + 1 + 1, 0, none⟩ (.bool u)) b bx n fine u x :=
  ⟨h.N.far (by simp only; omega) _, h.F.far (by simp) _, h.O.put 0 _, h.X.far (by have := h.bx; simp only; omega) _, h.bx, h.below.setCell (by simp only; omega) _, fun j h1 h2 => (Below.heap_setCell _ _ _ _ (by simp only; omega)).trans (h.rest j h1 h2)⟩
theorem WB.setN (h : WB w0 w b bx n fine over x) (u : Int) : WB w0 (w.setCell ⟨b, 0, none⟩ (.int .i64 u)) b bx u fine over x :=
  ⟨h.N.put 0 _, h.F.far (by simp) _, h.O.far (by simp only; omega) _, h.X.far (by have := h.bx; simp only; omega) _, h.bx, h.below.setCell (by simp) _, fun j h1 h2 => (Below.heap_setCell _ _ _ _ (by simp only; omega)).trans (h.rest j h1 h2)⟩
theorem WB.drew (h : WB w0 w b bx n fine over x) : WB w0 w.drew b bx n fine over x :=
  ⟨h.N, h.F, h.O, h.X, h.bx, h.below.drew, h.rest⟩
end

set_option maxHeartbeats 4000000 in
set_option maxRecDepth 1000000 in
theorem walks1_tok (k a c n wn wc : Nat) (wb : Option Addr) (stop ee at' : Int) (b bw be ba bs : Nat) (w : World)
    (hN : Whole w b 3 #[.int .i64 (n : Int)]) (hF : Whole w (b + 1) 4 #[.bool true]) (hO : Whole w (b + 1 + 1) 4 #[.bool false])
    (hW : Whole w bw 27 #[.slice wb wn wc]) (_hE : Whole w be 28 #[.int .i64 ee]) (_hA : Whole w ba 3 #[.int .i64 at']) (hS : Whole w bs 3 #[.int .i64 stop])
    (g : Nat) (hwb : wb = some ⟨g, 0, none⟩) (hg : g < b) (lw : bw < b) (_le : be < b) (_la : ba < b) (ls : bs < b) (hn : n < wn) (hwn : wn ≤ 1048576)
    (c1 : w.cell? ⟨g, n * 3, none⟩ = some (.int .i64 (k : Int))) (c2 : w.cell? ⟨g, n * 3 + 1, none⟩ = some (.int .i64 (a : Int))) (c3 : w.cell? ⟨g, n * 3 + 2, none⟩ = some (.int .i64 (c : Int))) :
    Calls Tryd.prog 22 #[tokV k a c, .int .i64 0, .pointer (some ⟨b + 1, 0, none⟩), .pointer (some ⟨b + 1 + 1, 0, none⟩), .pointer (some ⟨b, 0, none⟩), .pointer (some ⟨bw, 0, none⟩), .pointer (some ⟨be, 0, none⟩), .pointer (some ⟨ba, 0, none⟩), .pointer (some ⟨bs, 0, none⟩)] w
      (WalkPost b n (decide (stop % 64 < (n : Int) + 1)) w) := by
  subst hwb
  have hm := i64_and63 stop
  have hm1 : 0 ≤ stop % 64 := by omega
  have hm2 : stop % 64 < 64 := by omega
  generalize stop % 64 = m at *
  have HM := hq hm
  clear hm
  have hlz := hO.lt
  have HX0 : WB w (w.alloc (.cells #[.int .i64 (k : Int), .int .i64 (a : Int), .int .i64 (c : Int)] 25)) b w.heap.size n true false #[.int .i64 (k : Int), .int .i64 (a : Int), .int .i64 (c : Int)] :=
    ⟨hN.alloc _, hF.alloc _, hO.alloc _, Whole.made _ _ _, hlz, (Below.refl _ _).alloc (by omega) _, fun j _ h2 => Below.heap_alloc _ _ _ h2⟩
  have HGC := hq (fun (W : World) (hb : Below b w W) => And.intro ((hb.cell (p := ⟨g, n * 3, none⟩) hg).trans c1) (And.intro ((hb.cell (p := ⟨g, n * 3 + 1, none⟩) hg).trans c2) ((hb.cell (p := ⟨g, n * 3 + 2, none⟩) hg).trans c3)))
  have HW := hq (fun (W : World) (hb : Below b w W) => (hW.kept hb lw).at_ 0)
  have HS := hq (fun (W : World) (hb : Below b w W) => (hS.kept hb ls).at_ 0)
  clear hN hF hO hW _hE _hA hS c1 c2 c3
  go_enter Tryd.func22, Tryd.ntmps22
  go_upto_region 1 with fail
  generalize w.alloc (.cells #[.int .i64 (k : Int), .int .i64 (a : Int), .int .i64 (c : Int)] 25) = w1 at *
  generalize w.heap.size = bx at *
  have n2 := HX0.F.at_ 0
  have n3 := HX0.O.at_ 0
  have f2 := HX0.F.free 0
  go_upto_region 2 with fail
  have HX1 := HX0.setF true
  generalize w1.setCell ⟨b + 1, 0, none⟩ (.bool true) = w2 at *
  clear n2 n3 f2 HX0
  have n1 := HX1.N.at_ 0
  have n2 := HX1.F.at_ 0
  have n4 := HW.o _ HX1.below
  have f2 := HX1.F.free 0
  have x0 := HX1.X.at_ 0
  have x1 := HX1.X.at_ 1
  have x2 := HX1.X.at_ 2
  obtain ⟨c1, c2, c3⟩ := HGC.o _ HX1.below
  have q1 : ∀ W : World, (Op.equalIn 10000 25 (.agg #[.int .i64 (k : Int), .int .i64 (a : Int), .int .i64 (c : Int)]) (.agg #[.int .i64 (k : Int), .int .i64 (a : Int), .int .i64 (c : Int)])).run Tryd.prog W = .ok true W := fun W => by rw [eq_tok]; simp
  go_upto_region 3 with fail
  go_still_tail 13, (by kernel_rfl)
  change wpList _ _ _ _ _ w2.drew
  have HX2 := HX1.drew
  clear HX1 n1 n2 n4 f2 x0 x1 x2 c1 c2 c3
  generalize w2.drew = w3 at *
  have n2 := HX2.F.at_ 0
  have f2 := HX2.F.free 0
  go_upto_region 5 with fail
  have HX3 := HX2.setF true
  generalize w3.setCell ⟨b + 1, 0, none⟩ (.bool true) = w4 at *
  clear n2 f2 HX2
  have n1 := HX3.N.at_ 0
  have f1 := HX3.N.free 0
  go_upto_region 6 with fail
  have HX4 := HX3.setN ((n : Int) + 1)
  generalize w4.setCell ⟨b, 0, none⟩ (.int .i64 ((n : Int) + 1)) = w5 at *
  clear n1 f1 HX3
  have n1 := HX4.N.at_ 0
  have n3 := HX4.O.at_ 0
  have f3 := HX4.O.free 0
  have n6 := HS.o _ HX4.below
  go_upto_region 7 with fail
  have hov : (decide (bits .and .i64 stop 63 < (n : Int) + 1)) = decide (m < (n : Int) + 1) := by rw [HM.o]
  rw [hov]
  generalize decide (m < (n : Int) + 1) = ov at *
  have HX5 := HX4.setO ov
  generalize w5.setCell ⟨b + 1 + 1, 0, none⟩ (.bool ov) = w6 at *
  clear n1 n3 f3 n6 HX4 hov
  have n3 := HX5.O.at_ 0
  go_wp2_with fail
  go_ret
  exact ⟨rfl, HX5.N, HX5.F, HX5.O, HX5.below, HX5.rest⟩

set_option maxHeartbeats 4000000 in
set_option maxRecDepth 1000000 in
theorem walks1_err (k n vc : Nat) (vb : Option Addr) (stop ee : Int) (b bw be ba bs : Nat) (w : World)
    (hN : Whole w b 3 #[.int .i64 (n : Int)]) (hF : Whole w (b + 1) 4 #[.bool true]) (hO : Whole w (b + 1 + 1) 4 #[.bool false])
    (hW : Whole w bw 27 #[.slice vb n vc]) (hE : Whole w be 28 #[.int .i64 ee]) (hA : Whole w ba 3 #[.int .i64 (k : Int)]) (hS : Whole w bs 3 #[.int .i64 stop])
    (he : ee ≠ 0) (lw : bw < b) (le : be < b) (la : ba < b) (ls : bs < b) (hn : n ≤ 1048576) :
    Calls Tryd.prog 22 #[tokV 0 k k, .int .i64 ee, .pointer (some ⟨b + 1, 0, none⟩), .pointer (some ⟨b + 1 + 1, 0, none⟩), .pointer (some ⟨b, 0, none⟩), .pointer (some ⟨bw, 0, none⟩), .pointer (some ⟨be, 0, none⟩), .pointer (some ⟨ba, 0, none⟩), .pointer (some ⟨bs, 0, none⟩)] w
      (WalkPost b n (decide (stop % 64 < (n : Int) + 1)) w) := by
  have hm := i64_and63 stop
  have hm1 : 0 ≤ stop % 64 := by omega
  have hm2 : stop % 64 < 64 := by omega
  have e1 : (ee != 0) = true := bne_iff_ne.2 he
  have e2 : (ee == ee) = true := beq_self_eq_true _
  have e3 : ((n : Int) == (n : Int)) = true := beq_self_eq_true _
  clear he
  generalize stop % 64 = m at *
  have HM := hq hm
  clear hm
  have hlz := hO.lt
  have HX0 : WB w (w.alloc (.cells #[.int .i64 ((0 : Nat) : Int), .int .i64 (k : Int), .int .i64 (k : Int)] 25)) b w.heap.size n true false #[.int .i64 ((0 : Nat) : Int), .int .i64 (k : Int), .int .i64 (k : Int)] :=
    ⟨hN.alloc _, hF.alloc _, hO.alloc _, Whole.made _ _ _, hlz, (Below.refl _ _).alloc (by omega) _, fun j _ h2 => Below.heap_alloc _ _ _ h2⟩
  have HW := hq (fun (W : World) (hb : Below b w W) => (hW.kept hb lw).at_ 0)
  have HS := hq (fun (W : World) (hb : Below b w W) => (hS.kept hb ls).at_ 0)
  have HE := hq (fun (W : World) (hb : Below b w W) => (hE.kept hb le).at_ 0)
  have HA := hq (fun (W : World) (hb : Below b w W) => (hA.kept hb la).at_ 0)
  clear hN hF hO hW hE hA hS
  go_enter Tryd.func22, Tryd.ntmps22
  go_upto_region 1 with fail
  generalize w.alloc (.cells #[.int .i64 ((0 : Nat) : Int), .int .i64 (k : Int), .int .i64 (k : Int)] 25) = w1 at *
  generalize w.heap.size = bx at *
  have n2 := HX0.F.at_ 0
  have n3 := HX0.O.at_ 0
  have f2 := HX0.F.free 0
  go_upto_region 2 with fail
  have HX1 := HX0.setF true
  generalize w1.setCell ⟨b + 1, 0, none⟩ (.bool true) = w2 at *
  clear n2 n3 f2 HX0
  have n1 := HX1.N.at_ 0
  have n2 := HX1.F.at_ 0
  have n4 := HW.o _ HX1.below
  have n5 := HE.o _ HX1.below
  have n7 := HA.o _ HX1.below
  have f2 := HX1.F.free 0
  have x0 := HX1.X.at_ 0
  have x1 := HX1.X.at_ 1
  have x2 := HX1.X.at_ 2
  have q1 : ∀ W : World, (Op.equalIn 10000 25 (.agg #[.int .i64 0, .int .i64 (k : Int), .int .i64 (k : Int)]) (.agg #[.int .i64 0, .int .i64 (k : Int), .int .i64 (k : Int)])).run Tryd.prog W = .ok true W := fun W => by rw [eq_tok]; simp
  go_upto_region 5 with fail
  have HX3 := HX1.setF true
  generalize w2.setCell ⟨b + 1, 0, none⟩ (.bool true) = w4 at *
  clear HX1 n1 n2 n4 n5 n7 f2 x0 x1 x2
  have n1 := HX3.N.at_ 0
  have f1 := HX3.N.free 0
  go_upto_region 6 with fail
  have HX4 := HX3.setN ((n : Int) + 1)
  generalize w4.setCell ⟨b, 0, none⟩ (.int .i64 ((n : Int) + 1)) = w5 at *
  clear n1 f1 HX3
  have n1 := HX4.N.at_ 0
  have n3 := HX4.O.at_ 0
  have f3 := HX4.O.free 0
  have n6 := HS.o _ HX4.below
  go_upto_region 7 with fail
  have hov : (decide (bits .and .i64 stop 63 < (n : Int) + 1)) = decide (m < (n : Int) + 1) := by rw [HM.o]
  rw [hov]
  generalize decide (m < (n : Int) + 1) = ov at *
  have HX5 := HX4.setO ov
  generalize w5.setCell ⟨b + 1 + 1, 0, none⟩ (.bool ov) = w6 at *
  clear n1 n3 f3 n6 HX4 hov
  have n3 := HX5.O.at_ 0
  go_wp2_with fail
  go_ret
  exact ⟨rfl, HX5.N, HX5.F, HX5.O, HX5.below, HX5.rest⟩
end Go.Proofs.YtinenhnfhdeidaaDoor
