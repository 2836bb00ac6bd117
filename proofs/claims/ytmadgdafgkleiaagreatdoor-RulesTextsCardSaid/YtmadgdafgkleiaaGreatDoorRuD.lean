/-
  WALKS: the document's Match of layer 18.
-/
import Derived.Test.YtmadgdafgkleiaaGreatDoorRua
import Derived.IntWalk
import Derived.Deep.RegionHeld3
import Derived.Test.YtmadgdafgkleiaaGreatDoorFlx
namespace Go.Proofs.YtmadgdafgkleiaaGreatDoor
open Go.RowKit
def RMA (v5 v7 : Value) (k q : Nat) (aF aN : Addr) (i : Nat) (v : Value) (_ _ : Nat) (_ : World) : Prop := match i with
  | 0 => v = v7
  | 1 => v = .int .i64 (k : Int)
  | 2 => v = v5
  | 3 => v = .int .i64 (k : Int)
  | 4 => v = .int .i64 (q : Int)
  | 5 => v = .pointer (some aF)
  | 6 => v = .bool false
  | 7 => v = .bool false
  | 25 => v = .bool false
  | 26 => v = .pointer (some aN)
  | _ => v = undef
def RMB (v0 v5 v7 : Value) (x : Bs) (n k q : Nat) (aF aX aN : Addr) (i : Nat) (v : Value) (_ _ : Nat) (_ : World) : Prop := match i with
  | 0 => v = v7
  | 1 => v = .int .i64 (k : Int)
  | 2 => v = v5
  | 3 => v = .int .i64 (k : Int)
  | 4 => v = .int .i64 (q : Int)
  | 5 => v = .pointer (some aF)
  | 6 => v = .bool true
  | 7 => v = .bool true
  | 8 => v = v0
  | 9 => v = .int .i64 (n : Int)
  | 10 => v = .pointer (some aX)
  | 11 => v = .string (st x)
  | 12 => v = .bool true
  | 13 => v = .bool true
  | 24 => v = .bool true
  | 25 => v = .bool true
  | 26 => v = .pointer (some aN)
  | _ => v = undef
def RMC (v0 v1 v5 v7 : Value) (x y : Bs) (c : Bool) (n k q : Nat) (aF aX aY aN : Addr) (i : Nat) (v : Value) (_ _ : Nat) (_ : World) : Prop := match i with
  | 0 => v = v7
  | 1 => v = .int .i64 (k : Int)
  | 2 => v = v5
  | 3 => v = .int .i64 (k : Int)
  | 4 => v = .int .i64 (q : Int)
  | 5 => v = .pointer (some aF)
  | 6 => v = .bool true
  | 7 => v = .bool true
  | 8 => v = v0
  | 9 => v = .int .i64 (n : Int)
  | 10 => v = .pointer (some aX)
  | 11 => v = .string (st x)
  | 12 => v = .bool false
  | 13 => v = .bool false
  | 14 => v = v0
  | 15 => v = .int .i64 (n : Int)
  | 16 => v = .pointer (some aX)
  | 17 => v = .string (st x)
  | 18 => v = v1
  | 19 => v = .int .i64 (k : Int)
  | 20 => v = .int .i64 (q : Int)
  | 21 => v = .pointer (some aY)
  | 22 => v = .string (st y)
  | 26 => v = .pointer (some aN)
  | _ => v = .bool c
structure RowTo (T cur : List Bool) (k : Nat) : Prop where
  len : cur.length = T.length
  at_ : ∀ j, j < k → cur[j]? = T[j]?
  off : ∀ j, k ≤ j → j < T.length → cur[j]? = some false
theorem RowTo.set {T cur : List Bool} {k : Nat} (h : RowTo T cur k) (hk : k < T.length) {b : Bool} (hb : T[k]? = some b) : RowTo T (cur.set k b) (k + 1) := ⟨by rw [List.length_set]; exact h.len, fun j hj => by
    by_cases e : j = k
    · subst e
      rw [List.getElem?_set_self (by rw [h.len]; exact hk), hb]
    · rw [List.getElem?_set_ne (fun h => e h.symm)]
      exact h.at_ j (by omega), fun j hj hl => by
    rw [List.getElem?_set_ne (by omega)]
    exact h.off j (by omega) hl⟩
theorem RowTo.skip {T cur : List Bool} {k : Nat} (h : RowTo T cur k) (hb : T[k]? = some false) : RowTo T cur (k + 1) := ⟨h.len, fun j hj => by
    by_cases e : j = k
    · subst e
      have hk : j < T.length := (List.getElem?_eq_some_iff.1 hb).1
      rw [hb, h.off j (Nat.le_refl _) hk]
    · exact h.at_ j (by omega), fun j hj hl => h.off j (by omega) hl⟩
theorem RowTo.done {T cur : List Bool} (h : RowTo T cur T.length) : cur = T := List.ext_getElem? fun j => by
  rcases Nat.lt_or_ge j T.length with hj | hj
  · exact h.at_ j hj
  · rw [List.getElem?_eq_none (by rw [h.len]; exact hj), List.getElem?_eq_none hj]
end Go.Proofs.YtmadgdafgkleiaaGreatDoor

