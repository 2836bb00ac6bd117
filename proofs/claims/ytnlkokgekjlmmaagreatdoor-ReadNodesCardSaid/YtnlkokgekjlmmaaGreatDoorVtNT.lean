/-
  WALKS: value.decimal, members, node.
  WALKS: value.fits, Open, Right.
  WALKS: value.fits, Open, Right.
  WALKS: value.byKey; Copy and Sorted.
  WALKS: value.rows, of numbers and of trees.
  WALKS: value.objects and its closures.
  PLAIN MATHEMATICS: sorting keeps what a tree is, is done once, and equal in the order means equal, of sorted ones.
-/
import Derived.Test.YtnlkokgekjlmmaaGreatDoorVtRD
import Derived.Test.YtnlkokgekjlmmaaGreatDoorVlBC
import Derived.Test.YtnlkokgekjlmmaaGreatDoorNumKW
import Derived.Test.YtnlkokgekjlmmaaGreatDoorRun
import Derived.Test.YtnlkokgekjlmmaaGreatDoorBas
import Derived.Test.YtnlkokgekjlmmaaGreatDoorNud
import Derived.Maps.OwnOps
import Derived.Maps.OwnSet
import Derived.Test.YtnlkokgekjlmmaaGreatDoorShelf
import Derived.Lib.OwnBridge
import Derived.BigQuiet
namespace Go.Proofs.YtnlkokgekjlmmaaGreatDoor
open Go.RowKit Go.WideMaps Go.Maps
theorem decDigits_shortV (n : Int) (h0 : -9223372036854775808 ≤ n) (h1 : n ≤ 9223372036854775807) : (Lib.itoa n).length ≤ 1000 := by
 have h := Lib.itoa_length_le n (by omega) (by omega)
 omega
def DecP (t : Bs) (w : World) (e : Ending) (w' : World) : Prop := e = .returned (.tuple #[(numT t).val, .bool (decM t)]) ∧ Below w.heap.size w w'
structure Env (w : World) : Prop where
 its : Its w
 err : ErrAt w
 tab : tabs w
theorem Env.grow {w w' : World} (h : Env w) (hb : Below w.heap.size w w') : Env w' := ⟨h.its.grow hb, h.err.grow hb, tabs_grow h.tab hb⟩
def MapK (w : World) (b k : Nat) (l : List Bs) : Prop := w.ownsMap Tryz.prog 9 (plainElem (H := Unit) Tryz.prog 3) b k (mapTo l k)
theorem MapK.kept {w w' : World} {b k : Nat} {l : List Bs} {row : Option Nat} (h : MapK w b k l) (hg : w.grownBy w' row) (hne : some b ≠ row) : MapK w' b k l := World.ownsMap.kept h hg hne
theorem MapK.grow {w w' : World} {b k : Nat} {l : List Bs} (h : MapK w b k l) (hb : Below w.heap.size w w') : MapK w' b k l := h.kept (row := none) (grownBy_below hb none) (by simp)
theorem nodeM_mk (k : Int) (t : Bs) (ks : List Bs) (is : List Vl) : nodeM (.mk k t ks is) = if k = 5 then decide (t = []) && decide (ks = []) else if k = 6 then decide (t = []) && membersM ks is.length else (decide (ks = []) && decide (is = [])) && scalarM k t := rfl
def Lim (v : Vl) : Prop := v.t.length ≤ 1048576 ∧ ∀ k ∈ v.ks, k.length ≤ 1048576
structure FitI (w0 : World) (g h A : Nat) (pre : List (Vl × Nat)) (W : World) : Prop where
 bl : Below w0.heap.size w0 W
 cn : Whole W g 3 #[.int .i64 (pre.length : Int)]
 fn : Whole W h 35 #[.func (.func A) #[] #[]]
theorem FitI.step {w0 W V0 : World} {g h A : Nat} {pre : List (Vl × Nat)} (hI : FitI w0 g h A pre W) (hg0 : w0.heap.size ≤ g) (hgh : g ≠ h) (hb : Below W.heap.size W V0) (y : Vl × Nat) {m : Int} (hm : m = (pre.length : Int) + 1) :
 FitI w0 g h A (pre ++ [y]) (V0.setCell ⟨g, 0, none⟩ (.int .i64 m)) ∧ Kp (fun k => k = g) W (V0.setCell ⟨g, 0, none⟩ (.int .i64 m)) := by
 have h1 := CntI.step (w0 := w0) ⟨hI.bl, hI.cn⟩ hg0 hb y hm
 exact ⟨⟨h1.1.1, h1.1.2, (hI.fn.grow hb).far (p := ⟨g, 0, none⟩) (fun e => hgh e.symm) _⟩, h1.2⟩
end Go.Proofs.YtnlkokgekjlmmaaGreatDoor
namespace Go.Proofs.YtnlkokgekjlmmaaGreatDoor
open Go.RowKit Go.Sort Go.Shelf
def ordN (ks : List Bs) (n : Nat) : List Nat := ((List.finRange n).mergeSort (fun x y => !ltOf (cfK ks n) y x)).map Fin.val
def ordK (v : Vl) : List Nat := if v.k = 6 then ordN v.ks v.is.length else List.range v.is.length
def natE {n : Nat} (i : Fin n) : Value := .int .i64 (i.val : Int)
def NatsIn (w : World) (o : Option Addr) (l : List Nat) : Prop := ∀ i (h : i < l.length), ∃ b f, o = some ⟨b, f, none⟩ ∧ w.cell? ⟨b, f + i, none⟩ = some (.int .i64 (l[i] : Int))
theorem NatsIn.grow {w w' : World} {o : Option Addr} {l : List Nat} (h : NatsIn w o l) (hb : Below w.heap.size w w') : NatsIn w' o l := fun i hi => by
 obtain ⟨b, f, h1, h2⟩ := h i hi
 exact ⟨b, f, h1, (hb.cell (p := ⟨b, f + i, none⟩) (cell_blk h2)).trans h2⟩
def ItemsIn (w : World) (o : Option Addr) (l : List Vt) : Prop := ∀ i (h : i < l.length), ∃ b f, o = some ⟨b, f, none⟩ ∧ ItemAt w b (f + i * 4) l[i]
theorem ItemsIn.grow {w w' : World} {o : Option Addr} {l : List Vt} (h : ItemsIn w o l) (hb : Below w.heap.size w w') : ItemsIn w' o l := fun i hi => by
 obtain ⟨b, f, h1, h2⟩ := h i hi
 exact ⟨b, f, h1, h2.grow hb⟩
def cmpS (v w : Vl) : Int := cmpV (sortV v) (sortV w)
def Good (v : Vl) : Prop := v.allB nodeM = true
theorem Good.items {k : Int} {t : Bs} {ks : List Bs} {is : List Vl} (h : Good (.mk k t ks is)) : ∀ x ∈ is, Good x := by
 unfold Good at h
 simp only [Vl.allB, Bool.and_eq_true] at h
 exact Vl.allsB_iff.1 h.2
theorem Good.node {k : Int} {t : Bs} {ks : List Bs} {is : List Vl} (h : Good (.mk k t ks is)) : nodeM (.mk k t ks is) = true := by
 unfold Good at h
 simp only [Vl.allB, Bool.and_eq_true] at h
 exact h.1
theorem Good.obj {k : Int} {t : Bs} {ks : List Bs} {is : List Vl} (h : Good (.mk k t ks is)) (h6 : k = 6) : ks.length = is.length ∧ ks.length ≤ 4096 ∧ ks.Nodup := by
 have h1 := h.node
 rw [nodeM_mk, if_neg (by omega), if_pos h6] at h1
 unfold membersM at h1
 simp only [Bool.and_eq_true, decide_eq_true_eq] at h1
 exact ⟨h1.2.1, h1.2.2.1, h1.2.2.2.2⟩
end Go.Proofs.YtnlkokgekjlmmaaGreatDoor
namespace Go.Proofs.YtnlkokgekjlmmaaGreatDoor
end Go.Proofs.YtnlkokgekjlmmaaGreatDoor
