/-
  A row that came in at no address has no room; RulesFits, its walk's answer written out.
-/
import Derived.Test.YtmomildkopainaaDoorRuT
import Derived.Deep.Slices
namespace Go.Proofs.YtmomildkopainaaDoor
open Go.ChangeShapes Go.WideShapes Go.ChangeAt Go.RowKit Go.Deep
section
variable {H : Type} {enc : TypeId × Value → H} {P : Program} {w : World} {base : Nat} {spare : Nat → Bool} {held : Bool}
theorem none_capR {tL tE : TypeId} {o : Option Addr} {n cap : Nat} {d : DataW H} {p : List MemPlace} (hL : P.underlying tL = some (.slice tE)) (h : DataW.Trod enc P w base spare held tL (.slice o n cap) d p) : o = none → cap = 0 := by
  rintro rfl
  obtain ⟨fuel, hf⟩ := h
  rcases open_slice hL hf with ⟨hcs, _⟩ | ⟨a, len', cap', m, n, D, Pl, hcs, _⟩
  · simp [Value.cells] at hcs
    exact hcs.2
  · simp [Value.cells] at hcs
end
theorem fits_law2 (o0 : Option Addr) (c0 : Nat) (x0 : List Bs) (o1 : Option Addr) (c1 : Nat) (x1 : List Bs) (o2 : Option Addr) (c2 : Nat) (x2 : List Bs) (o3 : Option Addr) (c3 : Nat) (x3 : List Bs) (W : World) (hT : tabs W) (hM : mx W)
    (ha : SRow.ok W ⟨o0, c0, x0⟩) (hb : SRow.ok W ⟨o1, c1, x1⟩) (hp : SRow.ok W ⟨o2, c2, x2⟩) (hq' : SRow.ok W ⟨o3, c3, x3⟩) (ra : ∀ x ∈ x0, x.length ≤ maxLen) (rb : ∀ x ∈ x1, x.length ≤ maxLen) (rp : ∀ x ∈ x2, x.length ≤ maxLen) (rq : ∀ x ∈ x3, x.length ≤ maxLen)
    (na : o0 = none → c0 = 0) (nb : o1 = none → c1 = 0) (np : o2 = none → c2 = 0) (nq : o3 = none → c3 = 0) :
    Calls Tryd.prog 6 #[.slice o0 x0.length c0, .slice o1 x1.length c1, .slice o2 x2.length c2, .slice o3 x3.length c3] W fun e W' => e = .returned (.bool true) ∧ Below W.heap.size W W' :=
  fits_law ⟨o0, c0, x0⟩ ⟨o1, c1, x1⟩ ⟨o2, c2, x2⟩ ⟨o3, c3, x3⟩ W hT hM ha hb hp hq' ra rb rp rq na nb np nq
end Go.Proofs.YtmomildkopainaaDoor
