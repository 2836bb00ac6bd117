/-
  WALK: the law JsonSpaces.
-/
import Derived.Test.YtmomildkopainaaDoorJtQ
import Derived.Test.YtmomildkopainaaDoorJsZ
import Derived.Laws.BitsLemmas
import Derived.Deep.CutRange
import Derived.Deep.RegionWith
import Derived.Deep.QuietTactic
import Derived.BigQuiet
import Derived.IntWalk
namespace Go.Proofs.YtmomildkopainaaDoor
open Go.RowKit

theorem i64_and15 (n : Int) : bits .and .i64 n 15 = n % 16 := by
  have h63 : (BitVec.ofInt 64 15).toNat = 2 ^ 4 - 1 := by decide
  have key : (BitVec.ofInt 64 n &&& BitVec.ofInt 64 15).toNat = (n % ((2 ^ 64 : Nat) : Int)).toNat % 2 ^ 4 := by
    rw [BitVec.toNat_and, BitVec.toNat_ofInt, h63, Nat.and_two_pow_sub_one_eq_mod]
  show IntKind.i64.wrap ((BitVec.ofInt 64 n &&& BitVec.ofInt 64 15).toNat : Nat) = n % 16
  rw [key, IntKind.wrap_i64]
  omega
theorem byt_left (x y : ByteArray) (j : Nat) (h : j < x.size) : byt (x ++ y) j = byt x j := by
  rw [byt_eq _ _ (by rw [ByteArray.size_append]; omega), byt_eq _ _ h, ByteArray.getElem_append_left h]
theorem byt_right (x y : ByteArray) (j : Nat) (h : j < y.size) : byt (x ++ y) (x.size + j) = byt y j := by
  rw [byt_eq _ _ (by rw [ByteArray.size_append]; omega), byt_eq _ _ h, ByteArray.getElem_append_right (by omega)]
  congr 2
  omega
def blanks16 : ByteArray := ⟨#[32, 10, 9, 13, 32, 10, 9, 13, 32, 10, 9, 13, 32, 10, 9, 13]⟩
theorem blanks_blank (a j : Nat) (ha : a ≤ 16) (hj : j < a) : isBlank (byt (blanks16.extract 0 a) j) = true := by
  rw [byt_sub blanks16 0 a j ha (by omega), Nat.zero_add]
  have : ∀ j, j < 16 → isBlank (byt blanks16 j) = true := by decide +kernel
  exact this j (by omega)
theorem blanks_size (a : Nat) (ha : a ≤ 16) : (blanks16.extract 0 a).size = a := by
  rw [ByteArray.size_extract]
  have : blanks16.size = 16 := rfl
  omega
theorem spaces_text (s : ByteArray) {a b : Nat} (ha : a ≤ 16) (hb : b ≤ 16) : (blanks16.extract 0 a ++ s ++ blanks16.extract 0 b).size = a + s.size + b ∧ (∀ j, j < a → isBlank (byt (blanks16.extract 0 a ++ s ++ blanks16.extract 0 b) j) = true) ∧
    (∀ j, j < s.size → byt (blanks16.extract 0 a ++ s ++ blanks16.extract 0 b) (a + j) = byt s j) ∧ ∀ j, a + s.size ≤ j → j < (blanks16.extract 0 a ++ s ++ blanks16.extract 0 b).size → isBlank (byt (blanks16.extract 0 a ++ s ++ blanks16.extract 0 b) j) = true := by
  have ea := blanks_size a ha
  have eb := blanks_size b hb
  have e1 : (blanks16.extract 0 a ++ s).size = a + s.size := by rw [ByteArray.size_append, ea]
  have e2 : (blanks16.extract 0 a ++ s ++ blanks16.extract 0 b).size = a + s.size + b := by rw [ByteArray.size_append, e1, eb]
  refine ⟨e2, fun j hj => ?_, fun j hj => ?_, fun j h1 h2 => ?_⟩
  · rw [byt_left _ _ _ (by omega), byt_left _ _ _ (by omega)]
    exact blanks_blank a j ha hj
  · rw [byt_left _ _ _ (by omega)]
    have := byt_right (blanks16.extract 0 a) s j hj
    rwa [ea] at this
  · have := byt_right (blanks16.extract 0 a ++ s) (blanks16.extract 0 b) (j - (a + s.size)) (by omega)
    rw [e1, show a + s.size + (j - (a + s.size)) = j by omega] at this
    rw [this]
    exact blanks_blank b _ hb (by omega)
theorem spaces_parse (s : ByteArray) {a b : Nat} (ha : a ≤ 16) (hb : b ≤ 16) (h4 : s.size ≤ 4096) {T : ByteArray} (hT : T = blanks16.extract 0 a ++ s ++ blanks16.extract 0 b) :
    T.size = a + s.size + b ∧ (∀ ns, jparseM s = .inr ns → ∃ cs, jparseM T = .inr cs ∧ LR (a + ·) 0 0 0 ns cs) ∧ (∀ wh er, jparseM s = .inl (wh, er) → ∃ wh' er', jparseM T = .inl (wh', er') ∧ er' ≠ 0) := by
  obtain ⟨e1, e2, e3, e4⟩ := spaces_text s ha hb
  rw [← hT] at e1 e2 e3 e4
  obtain ⟨h1, h2⟩ := spaces_ok (by omega) e3 e2 e4 (by omega) h4
  refine ⟨e1, h1, fun wh er h => ?_⟩
  cases hq : jparseM T with
  | inl e => exact ⟨e.1, e.2, rfl, jparseM_er hq⟩
  | inr cs =>
    obtain ⟨ns, h3⟩ := h2 cs hq
    rw [h] at h3; cases h3
theorem comma_text (s : ByteArray) {ns : List JN} (h4 : s.size ≤ 4096) (h : jparseM s = .inr ns) : ∃ wh, jparseM (s ++ ⟨#[44]⟩) = .inl (wh, 2) := by
  have e : (s ++ ⟨#[44]⟩ : ByteArray).size = s.size + 1 := by rw [ByteArray.size_append]; rfl
  refine comma_err e (fun j hj => byt_left _ _ _ hj) ?_ (by omega) h4 h
  have := byt_right s ⟨#[44]⟩ 0 (by decide)
  rw [Nat.add_zero] at this
  rw [this]; rfl
theorem jparse_weak {s : ByteArray} {W W' : World} {e : Ending} (h : JParsePost s W e W') : ∃ sx o l c n er, e = .returned (.tuple #[.agg #[.string sx, .slice o l c], .int .i64 n, .int .i64 er]) ∧ Below W.heap.size W W' := by
  unfold JParsePost at h
  cases hp : jparseM s with
  | inl p => rw [hp] at h; exact ⟨_, _, _, _, _, _, h.1, h.2⟩
  | inr ns =>
    rw [hp] at h
    obtain ⟨nv, vN, h1, h3, _, h2⟩ := h
    obtain ⟨na, nc, rfl⟩ := row_shape h3.nd
    exact ⟨_, _, _, _, _, _, h1, h2⟩
/-- the cells of a Doc's node -/
theorem node_cells {W : World} {B : Nat} {nv : List NV} {o : Option Addr} {cap : Nat} (h : DocIn B nv (.slice o nv.length cap) W) {k : Nat} (hk : k < nv.length) :
    ∃ g ka kc, o = some ⟨g, 0, none⟩ ∧ ∀ W', Below W.heap.size W W' → W'.cell? ⟨g, k * 7, none⟩ = some (.int .i64 (nv[k].n.kd : Int)) ∧ W'.cell? ⟨g, k * 7 + 1, none⟩ = some (.int .i64 (nv[k].n.a : Int)) ∧ W'.cell? ⟨g, k * 7 + 2, none⟩ = some (.int .i64 (nv[k].n.b : Int)) ∧ W'.cell? ⟨g, k * 7 + 3, none⟩ = some (.int .i64 (nv[k].n.ka : Int)) ∧ W'.cell? ⟨g, k * 7 + 4, none⟩ = some (.int .i64 (nv[k].n.kb : Int)) ∧ W'.cell? ⟨g, k * 7 + 5, none⟩ = some (.slice ka nv[k].n.kids.length kc) := by
  obtain ⟨g, c, hv, _, _, _, _, _, hc⟩ := h.node hk
  obtain ⟨ka, kc, hks⟩ := row_shape (h.kr k hk)
  injection hv with ho
  refine ⟨g, ka, kc, ho, fun W' hb => ?_⟩
  have hcw : ∀ j (u : Value), j < 7 → (nodeC nv[k])[j]? = some u → W'.cell? ⟨g, k * 7 + j, none⟩ = some u := fun j u hj hu => by
    have := (hc k hk j hj).trans hu
    exact (hb.cell (cell_blk' this)).trans this
  exact ⟨hcw 0 _ (by omega) rfl, hcw 1 _ (by omega) rfl, hcw 2 _ (by omega) rfl, hcw 3 _ (by omega) rfl, hcw 4 _ (by omega) rfl, by rw [← hks]; exact hcw 5 _ (by omega) rfl⟩
theorem DocIn.down {B B' : Nat} {nv : List NV} {vN : Value} {W : World} (h : DocIn B nv vN W) (hb : B' ≤ B) : DocIn B' nv vN W :=
  ⟨row_base' h.nd hb, fun i hi => row_base' (h.kr i hi) hb, fun i hi => row_base' (h.pr i hi) hb, h.ak, h.ap, h.n4, h.kl⟩
theorem below_drawnS {B : Nat} {a w : World} (h : Below B a w) (n : Nat) : Below B a (w.drewN n) := ⟨h.os, h.tape, h.output, h.size, h.block⟩
theorem size_up (w : World) (o : Obj) : w.heap.size < (w.alloc o).drew.heap.size := by
  show w.heap.size < (w.alloc o).heap.size
  rw [World.size_alloc]; omega
/-- a Doc in a box of its own -/
structure DocBox (B g : Nat) (nv : List NV) (t : ByteArray) (o : Option Addr) (n c : Nat) (W wx : World) : Prop where
  box : Whole wx g 25 #[.string t, .slice o n c]
  doc : DocIn B nv (.slice o n c) wx
  below : Below W.heap.size W wx
theorem DocBox.grow {B g : Nat} {nv : List NV} {t : ByteArray} {o : Option Addr} {n c : Nat} {W W' W'' : World} (h : DocBox B g nv t o n c W W') (hb : Below W'.heap.size W' W'') : DocBox B g nv t o n c W W'' :=
  ⟨h.box.grow hb, h.doc.grow hb, below_trans h.below hb⟩
end Go.Proofs.YtmomildkopainaaDoor
