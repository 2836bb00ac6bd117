/-
  WALK: the law PointerSets.
-/
import Derived.Test.YtabfojdieegklaaGreatDoorPxN
import Derived.Test.YtabfojdieegklaaGreatDoorPx2
import Derived.Test.YtabfojdieegklaaGreatDoorVuL
import Derived.Test.YtabfojdieegklaaGreatDoorPxL
namespace Go.Proofs.YtabfojdieegklaaGreatDoor
open Go.RowKit

/-- a value is a tree that can be gone over -/
def IsT (M : Vl) (a : Value) (V : World) : Prop := ∃ y : Vt, a = y.v ∧ Fine y V ∧ y.m = M
theorem IsT.grow {M : Vl} {a : Value} {V W : World} (h : IsT M a V) (hb : Below V.heap.size V W) : IsT M a W := by
  obtain ⟨y, h1, h2, h3⟩ := h
  exact ⟨y, h1, h2.grow hb, h3⟩
def FPostT (r : Option Vl) (V : World) (e : Ending) (W : World) : Prop := ∃ (k : Int) (t : Bs) (ko : Option Addr) (n kc : Nat) (o : Option Addr) (m c : Nat), e = .returned (.tuple #[.agg #[.int .i64 k, .string (st t), .slice ko n kc, .slice o m c], .bool r.isSome]) ∧ IsT (r.getD zeroL) (.agg #[.int .i64 k, .string (st t), .slice ko n kc, .slice o m c]) W ∧ Below V.heap.size V W
def SPostT (r : Vl × Int) (V : World) (e : Ending) (W : World) : Prop := ∃ (k : Int) (t : Bs) (ko : Option Addr) (n kc : Nat) (o : Option Addr) (m c : Nat), e = .returned (.tuple #[.agg #[.int .i64 k, .string (st t), .slice ko n kc, .slice o m c], .int .i64 r.2]) ∧ IsT r.1 (.agg #[.int .i64 k, .string (st t), .slice ko n kc, .slice o m c]) W ∧ Below V.heap.size V W
theorem psetR_all {P : Vl → Prop} (hP : ∀ k t ks is is', P (.mk k t ks is) → P (.mk k t ks is')) {x u : Vl} (hx : x.All P) (hu : u.All P) (hz : zeroL.All P) (l : List Bs) : (psetR x l u).1.All P := by
  unfold psetR
  split
  · split
    · split
      · exact psetM_all hP hu l x hx
      · exact hz
    · exact hz
  · exact hz
theorem psetR_size2 {x u : Vl} (l : List Bs) : (psetR x l u).1.size ≤ 8192 := by
  have h0 : zeroL.size = 1 := by kernel_rfl
  unfold psetR
  split
  · rename_i h
    split
    · split
      · have h1 := psetM_size u l x
        have h2 := (open_good h.2.1).2.1
        have h3 := (open_good h.2.2).2.1
        simp only; omega
      · simp only [h0]; omega
    · simp only [h0]; omega
  · simp only [h0]; omega
theorem equalT {M U : Vl} {a b : Value} {V : World} (ha : IsT M a V) (hb : IsT U b V) : Calls Tryz.prog 33 #[a, b] V (EqPost M U V) := by
  obtain ⟨y, rfl, hf, rfl⟩ := ha
  obtain ⟨u, rfl, hu, rfl⟩ := hb
  exact equal_any y u V hf.ok hu.ok
theorem equal_same {M : Vl} {a b : Value} {V : World} (ha : IsT M a V) (hb : IsT M b V) : Calls Tryz.prog 33 #[a, b] V fun e W => e = .returned (.bool true) ∧ Below V.heap.size V W :=
  (equalT ha hb).mono (fun e W ⟨v, h1, h2, h3⟩ => ⟨by rw [h1, h2.2 rfl], h3⟩)
/-! ### the mathematics of the law -/
end Go.Proofs.YtabfojdieegklaaGreatDoor
