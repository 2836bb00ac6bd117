/-
  WALK: the law ValueSorts.
-/
import Derived.Test.YtnlkokgekjlmmaaGreatDoorVuL
import Derived.Test.YtnlkokgekjlmmaaGreatDoorVtUB
import Derived.Test.YtnlkokgekjlmmaaGreatDoorVtNT
import Derived.Test.YtnlkokgekjlmmaaGreatDoorVtRD
namespace Go.Proofs.YtnlkokgekjlmmaaGreatDoor
open Go.RowKit
theorem all_sort {p : Vl → Prop} (hp : ∀ k t ks is ks' is', p (.mk k t ks is) → (∀ x ∈ ks', x ∈ ks) → p (.mk k t ks' is')) : ∀ v : Vl, v.All p → (sortV v).All p := Vl.ind (fun k t ks is ih h => by
  by_cases h6 : k = 6
  · subst h6
    rw [sortV_six]
    refine .mk _ _ _ _ (hp _ _ _ _ _ _ h.here (fun x hx => ?_)) (fun x hx => ?_)
    · obtain ⟨⟨a, b⟩, hq, rfl⟩ := List.mem_map.1 hx
      exact (List.of_mem_zip ((isort_perm cmpB _).mem_iff.1 hq)).1
    · obtain ⟨⟨a, b⟩, hq, rfl⟩ := List.mem_map.1 hx
      obtain ⟨y, hy, rfl⟩ := List.mem_map.1 (List.of_mem_zip ((isort_perm cmpB _).mem_iff.1 hq)).2
      exact ih y hy (h.items y hy)
  · rw [sortV_else h6]
    refine .mk _ _ _ _ (hp _ _ _ _ _ _ h.here (fun x hx => by cases hx)) (fun x hx => ?_)
    obtain ⟨y, hy, rfl⟩ := List.mem_map.1 hx
    exact ih y hy (h.items y hy))
theorem rng_sort {v : Vl} (h : v.All Vl.Rng) : (sortV v).All Vl.Rng := all_sort (fun _ _ _ _ _ _ h hs => ⟨h.hk, h.ht, fun x hx => h.hkt x (hs x hx)⟩) v h
theorem lim_sort {v : Vl} (h : v.All Lim) : (sortV v).All Lim := all_sort (p := Lim) (fun _ _ _ _ _ _ h hs => ⟨h.1, fun x hx => h.2 x (hs x hx)⟩) v h
def IsM (m : Vl) (a : Value) (V : World) : Prop := ∃ y : Vt, a = y.v ∧ y.Ok V ∧ y.m = m
structure Pz (w : World) (g gx gy : Nat) (CA CB CX CY : Array Value) (xs ys : Vt) (W : World) : Prop where
  lo : Below w.heap.size w W
  a : Whole W g 25 CA
  b : Whole W (g + 1) 25 CB
  x : Whole W gx 25 CX
  y : Whole W gy 25 CY
  fx : Fine xs W
  fy : Fine ys W
theorem Pz.grow {w W W' : World} {g gx gy : Nat} {CA CB CX CY : Array Value} {xs ys : Vt} (h : Pz w g gx gy CA CB CX CY xs ys W) (hb : Below W.heap.size W W') : Pz w g gx gy CA CB CX CY xs ys W' :=
  ⟨below_trans h.lo hb, h.a.grow hb, h.b.grow hb, h.x.grow hb, h.y.grow hb, h.fx.grow hb, h.fy.grow hb⟩
theorem Pz.drew {w W : World} {g gx gy : Nat} {CA CB CX CY : Array Value} {xs ys : Vt} (h : Pz w g gx gy CA CB CX CY xs ys W) : Pz w g gx gy CA CB CX CY xs ys W.drew := h.grow (Below.refl _ _).drew
def SrtM (m : Vl) (V : World) (e : Ending) (V' : World) : Prop := ∃ a : Value, e = .returned a ∧ Hq (IsM m a V') ∧ Below V.heap.size V V'
end Go.Proofs.YtnlkokgekjlmmaaGreatDoor
