/-
  WALK: the law JsonAlone.
-/
import Derived.Test.YtmomildkopainaaDoorJtS
import Derived.Test.YtmomildkopainaaDoorJwN
import Derived.Test.YtmomildkopainaaDoorJsPb
import Derived.Deep.LoopGhost
namespace Go.Proofs.YtmomildkopainaaDoor
open Go.RowKit

theorem i64_and4095 (n : Int) : bits .and .i64 n 4095 = n % 4096 := by
  have h63 : (BitVec.ofInt 64 4095).toNat = 2 ^ 12 - 1 := by decide
  have key : (BitVec.ofInt 64 n &&& BitVec.ofInt 64 4095).toNat = (n % ((2 ^ 64 : Nat) : Int)).toNat % 2 ^ 12 := by
    rw [BitVec.toNat_and, BitVec.toNat_ofInt, h63, Nat.and_two_pow_sub_one_eq_mod]
  show IntKind.i64.wrap ((BitVec.ofInt 64 n &&& BitVec.ofInt 64 4095).toNat : Nat) = n % 4096
  rw [key, IntKind.wrap_i64]
  omega
/-- the cells of a Doc's nodes, in any later memory -/
theorem doc_cells {W : World} {B : Nat} {nv : List NV} {o : Option Addr} {cap : Nat} (h : DocIn B nv (.slice o nv.length cap) W) (hp : 0 < nv.length) :
    ∃ g, o = some ⟨g, 0, none⟩ ∧ ∀ i (hi : i < nv.length) j (u : Value), j < 7 → (nodeC nv[i])[j]? = some u → ∀ wx, Below W.heap.size W wx → wx.cell? ⟨g, i * 7 + j, none⟩ = some u := by
  obtain ⟨g, c, hv, _, _, _, _, _, hc⟩ := h.node hp
  injection hv with ho
  refine ⟨g, ho, fun i hi j u hj hu wx hbx => ?_⟩
  have := (hc i hi j hj).trans hu
  exact (hbx.cell (cell_blk' this)).trans this
/-- a kid of a Doc's node, in any later memory -/
theorem kid_cells {W : World} {B : Nat} {nv : List NV} {vN : Value} (h : DocIn B nv vN W) {i : Nat} (hi : i < nv.length) {q : Nat} (hq : q < nv[i].n.kids.length) :
    ∃ g c, nv[i].k = .slice (some ⟨g, 0, none⟩) nv[i].n.kids.length c ∧ ∀ wx, Below W.heap.size W wx → wx.cell? ⟨g, q, none⟩ = some (.int .i64 (nv[i].n.kids[q] : Int)) := by
  obtain ⟨g, c, h1, h2⟩ := nids_cell (h.kr i hi) hq
  exact ⟨g, c, h1, fun wx hb => (hb.cell (cell_blk' h2)).trans h2⟩
theorem slice_at {s : ByteArray} {a b : Nat} (h1 : a ≤ b) (h2 : b ≤ s.size) : sliceM s (a : Int) (b : Int) = s.extract a b := by
  unfold sliceM textT
  rw [if_neg (by omega)]
  rfl
theorem nmapA {nv : List NV} {m : Nat} (h : m < nv.length) : (nv.map NV.n)[m]? = some nv[m].n := by simp [h]
theorem Tree.kid {s : ByteArray} {ns : List JN} (h : Tree s ns) {i : Nat} {x : JN} (hi : ns[i]? = some x) {q k : Nat} (hk : x.kids[q]? = some k) : k < ns.length := by
  have hno := h.ok i x hi
  have hql := (List.getElem?_eq_some_iff.1 hk).1
  have key : ∀ ob m, Kds s ns ob i (x.a + 1) x.kids x.pcs m → k < ns.length := fun ob m hK => by
    obtain ⟨j, p, KA⟩ := hK.ix q hql
    obtain ⟨_, y, hy, _⟩ := KA.in_
    have h1 := KA.kid
    rw [hk] at h1
    rw [Option.some.inj h1]
    exact (List.getElem?_eq_some_iff.1 hy).1
  by_cases h5 : x.kd = 5
  · obtain ⟨m, h1, _⟩ := hno.arr h5; exact key _ _ h1
  · by_cases h6 : x.kd = 6
    · obtain ⟨m, h1, _⟩ := hno.obj h6; exact key _ _ h1
    · rw [(hno.leaf h5 h6).1] at hql; exact absurd hql (by simp)
end Go.Proofs.YtmomildkopainaaDoor
