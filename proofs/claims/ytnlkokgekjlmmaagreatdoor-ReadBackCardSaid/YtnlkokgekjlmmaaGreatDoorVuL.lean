/-
  WALK: the law ValueOrders, over what small answers.
-/
import Derived.Test.YtnlkokgekjlmmaaGreatDoorVtUB
namespace Go.Proofs.YtnlkokgekjlmmaaGreatDoor
open Go.RowKit
theorem few_fine {x : Vt} {w : World} {n : Nat} (hok : x.Ok w) (h : FewV x.m n) (hn : n ≤ 1000000) : Fine x w :=
  ⟨hok, h.sh.mono (fun v hv => ⟨Nat.le_trans hv.1 (by decide), fun k hk => Nat.le_trans (hv.2 k hk) (by decide)⟩), Nat.le_trans (x.m.size_weight) (Nat.le_trans h.wt hn)⟩
end Go.Proofs.YtnlkokgekjlmmaaGreatDoor
