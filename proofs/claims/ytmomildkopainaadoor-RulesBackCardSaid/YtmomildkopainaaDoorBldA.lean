/-
  A BUILDER THAT THE CALL MAKES: what it holds.
  A BUILDER: WriteByte.
  A BUILDER: WriteString.
  A BUILDER: WriteRune.
-/
import Derived.Test.YtmomildkopainaaDoorQuoteM
import Derived.Test.YtmomildkopainaaDoorMem
import Derived.Lib.OthersKept
namespace Go.Proofs.YtmomildkopainaaDoor
open Go.RowKit

/-- a builder at block b that holds these bytes -/
def Bld (B b : Nat) (l : Bs) (w : World) : Prop := Lib.IsBuilderF 81 5 B b (Lib.byteCells l) w
/-- a builder at block b has gone on to hold these bytes; else nothing has turned -/
def Wrote (B b : Nat) (l : Bs) (w w' : World) : Prop := Bld B b l w' ∧ Below B w w' ∧ Lib.OthersKept 5 (some b) w w'
theorem Wrote.trans {B b : Nat} {l l' : Bs} {w w1 w2 : World} (h : Wrote B b l w w1) (h' : Wrote B b l' w1 w2) : Wrote B b l' w w2 := ⟨h'.1, h.2.1.trans h'.2.1, h.2.2.trans h'.2.2⟩
theorem byteCells_app (a b : Bs) : Lib.byteCells (a ++ b) = Lib.byteCells a ++ Lib.byteCells b := by simp [Lib.byteCells]
def UnitPost (B b : Nat) (l : Bs) (w : World) (e : Ending) (w' : World) : Prop := e = .returned (.tuple #[]) ∧ Wrote B b l w w'

theorem Bld.below {B b : Nat} {l : Bs} {w w' : World} (h : Bld B b l w) (hb : Below w.heap.size w w') : Bld B b l w' := by
  have one : ∀ p, Lib.BuilderAtF 81 5 B b p (Lib.byteCells l) w → Lib.BuilderAtF 81 5 B b p (Lib.byteCells l) w' := by
    rintro p ⟨hB, v, hv, hown, hne⟩
    have hlt := (Array.getElem?_eq_some_iff.1 hv).1
    refine ⟨hB, v, (hb.block b hlt).trans hv, ⟨hown.1, ?_⟩, hne⟩
    rcases hown.2 with hn | ⟨g, cap, cur, fz, hv, hbg, hg, rest⟩
    · exact .inl hn
    · exact .inr ⟨g, cap, cur, fz, hv, hbg, (hb.block g (Array.getElem?_eq_some_iff.1 hg).1).trans hg, rest⟩
  exact h.elim (fun x => .inl (one _ x)) (fun x => .inr (one _ x))
theorem Bld.lt {B b : Nat} {l : Bs} {w : World} (h : Bld B b l w) : B ≤ b ∧ b < w.heap.size := by
  rcases h with ⟨hB, v, hv, _⟩ | ⟨hB, v, hv, _⟩
  all_goals exact ⟨hB, (Array.getElem?_eq_some_iff.1 hv).1⟩

end Go.Proofs.YtmomildkopainaaDoor

namespace Go.Proofs.YtmomildkopainaaDoor
open Go.RowKit

theorem wbyte (B b : Nat) (l : Bs) (c : UInt8) (w : World) (h : Bld B b l w) (hl : l.length + 1 ≤ 140737488355328) (hB : B ≤ w.heap.size) :
    Calls Tryd.prog 82 #[.pointer (some ⟨b, 0, none⟩), .int .u8 (c.toNat : Int)] w fun e w' => e = .returned .nilIface ∧ Wrote B b (l ++ [c]) w w' := by
  refine (Tryd.Builder_WriteByte_k B b (Lib.byteCells l) (c.toNat : Int) w h (by rw [Lib.byteCells_length]; exact hl) hB).mono ?_
  rintro e w' ⟨rfl, h1, h2, h3⟩
  refine ⟨rfl, .inr ?_, h2, h3⟩
  rw [byteCells_app]
  exact h1
end Go.Proofs.YtmomildkopainaaDoor

namespace Go.Proofs.YtmomildkopainaaDoor
open Go.RowKit

theorem wstring (B b : Nat) (l t : Bs) (w : World) (h : Bld B b l w) (hl : l.length + t.length ≤ 140737488355328) (hB : B ≤ w.heap.size) :
    Calls Tryd.prog 37 #[.pointer (some ⟨b, 0, none⟩), .string (st t)] w fun e w' => (∃ n, e = .returned (.tuple #[.int .i64 n, .nilIface])) ∧ Wrote B b (l ++ t) w w' := by
  refine (Tryd.Builder_WriteString_k B b (Lib.byteCells l) (st t) w h (by rw [Lib.byteCells_length, st_size]; exact hl) hB).mono ?_
  rintro e w' ⟨rfl, h1, h2, h3⟩
  refine ⟨⟨_, rfl⟩, .inr ?_, h2, h3⟩
  rw [byteCells_app]
  exact h1
end Go.Proofs.YtmomildkopainaaDoor

namespace Go.Proofs.YtmomildkopainaaDoor
open Go.RowKit

theorem wrune (B b : Nat) (l t : Bs) (r : Int) (w : World) (hr0 : -2147483648 ≤ r) (hr1 : r ≤ 2147483647) (ht : Lib.runeCells r = Lib.byteCells t) (h : Bld B b l w) (hl : l.length + 4 ≤ 140737488355328) (hB : B ≤ w.heap.size) :
    Calls Tryd.prog 89 #[.pointer (some ⟨b, 0, none⟩), .int .i32 r] w fun e w' => (∃ n, e = .returned (.tuple #[.int .i64 n, .nilIface])) ∧ Wrote B b (l ++ t) w w' := by
  refine (Tryd.Builder_WriteRune_k B b (Lib.byteCells l) r hr0 hr1 w h (by rw [Lib.byteCells_length]; exact hl) hB).mono ?_
  rintro e w' ⟨rfl, h1, h2, h3⟩
  refine ⟨⟨_, rfl⟩, .inr ?_, h2, h3⟩
  rw [byteCells_app, ← ht]
  exact h1

end Go.Proofs.YtmomildkopainaaDoor
