/-
  THE CELL OF bytealg.MaxLen: whatever int it holds; strings.Cut over lists of bytes.
-/
import Derived.Test.YtekihjffefokjaaDoorShelf
import Derived.Test.YtekihjffefokjaaDoorMkL
import Derived.Test.YtekihjffefokjaaDoorMem
namespace Go.Proofs.YtekihjffefokjaaDoor
open Go.RowKit

def mx (w : World) : Prop := ∃ m : Int, w.cell? ⟨0, 0, none⟩ = some (.int .i64 m)
theorem mx_of {w : World} (h : w.ShapedOpen Tryd.prog) : mx w := Tryd.laysM145.s1_3 w h
theorem mx_lt {w : World} (h : mx w) : 0 < w.heap.size := by
  obtain ⟨m, hm⟩ := h
  by_cases hb : 0 < w.heap.size
  · exact hb
  · unfold World.cell? at hm
    rw [Array.getElem?_eq_none (by omega)] at hm
    cases hm
theorem mx_below {B : Nat} {w w' : World} (h : mx w) (hb : Below B w w') (hB : 0 < B) : mx w' := by
  obtain ⟨m, hm⟩ := h
  exact ⟨m, (hb.cell (p := ⟨0, 0, none⟩) hB).trans hm⟩
theorem mx_grow {w w' : World} (h : mx w) (hb : Below w.heap.size w w') : mx w' := mx_below h hb (mx_lt h)
theorem below_drawn {B : Nat} {a w : World} (h : Below B a w) (n : Nat) : Below B a (w.drewN n) := ⟨h.os, h.tape, h.output, h.size, h.block⟩
/-- what Cut answers -/
def CutPost (s m : Bs) (w : World) (e : Ending) (w' : World) : Prop :=
  e = .returned (.tuple #[.string (st (cutR s (cutL m s)).1), .string (st (cutR s (cutL m s)).2.1), .bool (cutR s (cutL m s)).2.2]) ∧ ∃ n, w' = w.drewN n
theorem cut_any (s m : Bs) (w : World) (hm : mx w) (hs : s.length < 4294967281) (h0 : m ≠ []) :
    Calls Tryd.prog 62 #[.string (st s), .string (st m)] w (CutPost s m w) := by
  obtain ⟨k, hk⟩ := hm
  refine (Tryd.strings_Cut (st s) (st m) k w (by rw [st_size]; exact hs) hk).mono ?_
  rintro e w' ⟨rfl, n, rfl⟩
  refine ⟨?_, n, rfl⟩
  rw [st_list, st_list, cut_eq m h0]
theorem cut_no_any (s m : Bs) (w : World) (hm : mx w) (hs : s.length < 4294967281) (h0 : m ≠ []) (hc : cutL m s = none) :
    Calls Tryd.prog 62 #[.string (st s), .string (st m)] w fun e w' => e = .returned (.tuple #[.string (st s), .string (st []), .bool false]) ∧ ∃ n, w' = w.drewN n := by
  refine (cut_any s m w hm hs h0).mono ?_
  rintro e w' ⟨rfl, h⟩
  rw [hc]
  exact ⟨rfl, h⟩
theorem cut_yes_any (s m a b : Bs) (w : World) (hm : mx w) (hs : s.length < 4294967281) (h0 : m ≠ []) (hc : cutL m s = some (a, b)) :
    Calls Tryd.prog 62 #[.string (st s), .string (st m)] w fun e w' => e = .returned (.tuple #[.string (st a), .string (st b), .bool true]) ∧ ∃ n, w' = w.drewN n := by
  refine (cut_any s m w hm hs h0).mono ?_
  rintro e w' ⟨rfl, h⟩
  rw [hc]
  exact ⟨rfl, h⟩
end Go.Proofs.YtekihjffefokjaaDoor
