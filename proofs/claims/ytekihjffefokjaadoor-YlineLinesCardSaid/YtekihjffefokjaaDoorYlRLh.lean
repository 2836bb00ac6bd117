/-
  WALKS: the document's own Line (layer 10).
-/
import Derived.Test.YtekihjffefokjaaDoorYlRL
import Derived.Test.YtekihjffefokjaaDoorYlL1
import Derived.Test.YtekihjffefokjaaDoorYlI
import Derived.Lib.IndexLaws
namespace Go.Proofs.YtekihjffefokjaaDoor
open Go.RowKit

theorem suf_cut (s : ByteArray) (a b : Nat) (hab : a ≤ b) (hbs : b ≤ s.size) : Suf (s.extract 0 b) a (s.extract a b) := by
  have hz : (s.extract 0 b).size = b := by rw [ByteArray.size_extract]; omega
  refine ⟨by omega, ?_⟩
  rw [hz, ByteArray.extract_extract]
  congr 1
  · omega
  · omega
theorem noLF {t : ByteArray} (h : hasLF t = false) (i : Nat) (hi : i < t.size) : byt t i ≠ 10 := by
  unfold hasLF at h
  have h1 := of_decide_eq_false h
  have h2 := Lib.indexByte_ge t.data.toList 10
  have h3 := Lib.indexByte_none (show Lib.indexByte t.data.toList 10 = -1 by omega) i
  intro e
  refine h3 ?_
  have hl : i < t.data.toList.length := by rw [Array.length_toList]; exact hi
  rw [List.getElem?_eq_getElem hl]
  refine congrArg some (UInt8.toNat_inj.1 ?_)
  rw [byt_eq t i hi] at e
  exact e
theorem isLF {t : ByteArray} (h : hasLF t = true) : ∃ o, o < t.size ∧ byt t o = 10 ∧ ∀ i, i < o → byt t i ≠ 10 := by
  unfold hasLF at h
  have h1 := of_decide_eq_true h
  obtain ⟨o, ho⟩ := Int.eq_ofNat_of_zero_le h1
  obtain ⟨h2, h3⟩ := Lib.indexByte_some ho
  obtain ⟨hl, he⟩ := List.getElem?_eq_some_iff.1 h2
  have hl' : o < t.size := by rw [Array.length_toList] at hl; exact hl
  refine ⟨o, hl', ?_, fun i hi e => ?_⟩
  · rw [byt_eq t o hl']
    exact congrArg UInt8.toNat he
  · have hi2 : i < t.size := by omega
    refine h3 i hi ?_
    rw [List.getElem?_eq_getElem (by omega)]
    refine congrArg some (UInt8.toNat_inj.1 ?_)
    rw [byt_eq t i hi2] at e
    exact e
/-- a line of a text that is cut out -/
def lineT (a b : Int) (n : Nat) (d : Nat × Option Nat × (Nat × Nat) × Option Nat) : LineR :=
  ⟨d.1, a, b, n, (match d.2.1 with | none => 0 | some _ => a + n), (match d.2.1 with | none => 0 | some e => a + e), a + d.2.2.1.1, a + d.2.2.1.2,
    (match d.2.2.2 with | none => 0 | some c => a + c), (match d.2.2.2 with | none => 0 | some _ => b)⟩
theorem lineT_is (a b n : Nat) (d : Nat × Option Nat × (Nat × Nat) × Option Nat) : lineR a b (a + n) (upD a d) = lineT a b n d := by
  obtain ⟨k, ko, ⟨r0, r1⟩, no⟩ := d
  cases ko <;> cases no <;> (unfold lineR lineT upD upR; simp [upO]; try omega)
/-- how the walk stands: the span's block, the result's, the line's -/
structure RL (w : World) (a b : Int) (cs : Array Value) (wx : World) : Prop where
  below : Below w.heap.size w wx
  sp : Whole wx w.heap.size 23 #[.int .i64 a, .int .i64 b]
  res : Whole wx (w.heap.size + 1) 26 zero10
  x : Whole wx (w.heap.size + 1 + 1) 26 cs
  sz : w.heap.size + 1 + 1 + 1 ≤ wx.heap.size
theorem RL.grow {w wx wy : World} {a b : Int} {cs : Array Value} (h : RL w a b cs wx) (hb : Below wx.heap.size wx wy) : RL w a b cs wy :=
  ⟨h.below.trans (hb.mono (by have := h.sz; omega)), h.sp.grow hb, h.res.grow hb, h.x.grow hb, Nat.le_trans h.sz hb.size⟩
theorem RL.put {w wx : World} {a b : Int} {cs : Array Value} (h : RL w a b cs wx) (i : Nat) (u : Value) : RL w a b (cs.setIfInBounds i u) (wx.setCell ⟨w.heap.size + 1 + 1, i, none⟩ u) :=
  ⟨h.below.setCell (by simp only; omega) u, h.sp.far (by simp only; omega) u, h.res.far (by simp only; omega) u, h.x.put i u, by rw [show (wx.setCell ⟨w.heap.size + 1 + 1, i, none⟩ u).heap.size = wx.heap.size by simp [World.setCell]]; exact h.sz⟩
end Go.Proofs.YtekihjffefokjaaDoor
