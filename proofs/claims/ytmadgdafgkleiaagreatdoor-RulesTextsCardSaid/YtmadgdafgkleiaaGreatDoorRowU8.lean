/-
  WALK: the law PointerOrders.
  WALKS: the document's Index of paths.
  WALKS: the document's Compare of paths.
  A ROW OF BYTES that the call makes by append, and its way back to a text.
-/
import Derived.Test.YtmadgdafgkleiaaGreatDoorPxH
import Derived.Test.YtmadgdafgkleiaaGreatDoorPx1
import Derived.Test.YtmadgdafgkleiaaGreatDoorRefV
import Derived.Test.YtmadgdafgkleiaaGreatDoorPxq
import Derived.Test.YtmadgdafgkleiaaGreatDoorPxJ
import Derived.Test.YtmadgdafgkleiaaGreatDoorRun
import Derived.Test.YtmadgdafgkleiaaGreatDoorBas
import Derived.Laws.OwnMore
import Derived.Lib.AppendStr
import Derived.Laws.IdiomStrings
import Derived.Lib.SmallJoins
import Derived.Deep.LoopGhost
namespace Go.Proofs.YtmadgdafgkleiaaGreatDoor
open Go.RowKit
end Go.Proofs.YtmadgdafgkleiaaGreatDoor

namespace Go.Proofs.YtmadgdafgkleiaaGreatDoor
open Go.RowKit
end Go.Proofs.YtmadgdafgkleiaaGreatDoor

namespace Go.Proofs.YtmadgdafgkleiaaGreatDoor
open Go.RowKit
/-! ### Compare -/
end Go.Proofs.YtmadgdafgkleiaaGreatDoor

namespace Go.Proofs.YtmadgdafgkleiaaGreatDoor
open Go.RowKit
theorem infoU8 : (Tryz.prog.info? 5).map (fun i => (i.zero, i.size, i.bytes)) = some (some (.int .u8 0), 1, 1) := by kernel_rfl
theorem byteCells_app' (a b : Bs) : Lib.byteCells (a ++ b) = Lib.byteCells a ++ Lib.byteCells b := by simp [Lib.byteCells]
def RowIs (w : World) (base : Nat) (v : Value) (l : Bs) : Prop := w.ownsRow base 5 1 v l.length (Lib.byteCells l)
theorem RowIs.alloc {w : World} {base : Nat} {v : Value} {l : Bs} (h : RowIs w base v l) (o : Obj) : RowIs (w.alloc o) base v l := World.ownsRow.alloc h o
theorem rel_app {w : World} {base m : Nat} {v : Value} {l l' t : Bs} {news : List Value} (h : w.ownsRow base 5 1 v (l.length + m) (Lib.byteCells l ++ news)) (hl : l' = l ++ t) (hm : t.length = m) (hn : Lib.byteCells t = news) : RowIs w base v l' := by
  subst hl hm hn
  unfold RowIs
  rw [byteCells_app', List.length_append]
  exact h
theorem cells_new (w : World) (l : List Value) (T : TypeId) : ∀ j u, l[j]? = some u → (w.alloc (.cells l.toArray T)).cell? ((⟨w.heap.size, 0, none⟩ : Addr).add j) = some u := by
  intro j u h
  rw [show (⟨w.heap.size, 0, none⟩ : Addr).add j = ⟨w.heap.size, j, none⟩ by simp [Addr.add]; exact fun h => h.symm, World.cell?_alloc_new]
  simpa using h
theorem row_other {w : World} {B : Nat} {v : Value} {l : Bs} (h : RowIs w B v l) : ∀ k, v.ownBlock = some k → B ≤ k := fun k hk => (h.lt k hk).1
theorem u8_one {l : List Value} (h : ∃ xs : List Int, l = xs.map (Value.int .u8)) : ∀ u ∈ l, u.oneCell' = true := by
  obtain ⟨xs, rfl⟩ := h
  intro u hu
  obtain ⟨x, _, rfl⟩ := List.mem_map.1 hu
  rfl
theorem bytes_back {w : World} {base : Nat} {v : Value} {l : Bs} (h : RowIs w base v l) (h0 : 0 < l.length) : (convert 40 9 v).run Tryz.prog w = .ok (.string (st l)) w := by
  obtain ⟨g, cap, rfl⟩ := Go.Joins.ownsRow_form h h0
  refine run_convert_bytes_back w _ _ 5 _ _ l Tryz.underlying40 Tryz.underlying5 Tryz.underlying9 ?_
  intro j hj
  rw [show (⟨g, 0, none⟩ : Addr).add j = ⟨g, j, none⟩ by simp [Addr.add]; exact fun h => h.symm, World.ownsRow.cellAt h j (by omega)]
  simp [Lib.byteCells, hj]
end Go.Proofs.YtmadgdafgkleiaaGreatDoor

