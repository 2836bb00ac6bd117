/-
  WALK: small of layer 6, its first six regions.
  WALK: small of layer 7.
  WALK: pointer.Compare, what it answers.
  WALK: the law PointerBack.
-/
import Derived.Test.YtmadgdafgkleiaaGreatDoorPx1
import Derived.Test.YtmadgdafgkleiaaGreatDoorPtp
import Derived.Test.YtmadgdafgkleiaaGreatDoorRua
import Derived.Test.YtmadgdafgkleiaaGreatDoorPtR
namespace Go.Proofs.YtmadgdafgkleiaaGreatDoor
open Go.RowKit
def lfC (k : Int) (t : Bs) : Array Value := #[.int .i64 k, .string (st t), .slice none 0 0, .slice none 0 0]
/-! ### what small asks, of trees -/
def oneL : Vl := .mk 3 [49] [] []
def twoL : Vl := .mk 3 [50] [] []
def xL : Vl := .mk 6 [] [[97], [98]] [oneL, twoL]
def yL : Vl := .mk 6 [] [[98], [97]] [twoL, oneL]
def zL : Vl := .mk 5 [] [] [oneL, .mk 5 [] [] [twoL]]
def xT (g2 : Nat) : Vt := .mk 6 [] ⟨some ⟨g2 + 1, 0, none⟩, 2, [[97], [98]]⟩ (some ⟨g2 + 1 + 1, 0, none⟩) 2 [leafT 3 [49], leafT 3 [50]]
def yT (g3 : Nat) : Vt := .mk 6 [] ⟨some ⟨g3 + 1, 0, none⟩, 2, [[98], [97]]⟩ (some ⟨g3 + 1 + 1, 0, none⟩) 2 [leafT 3 [50], leafT 3 [49]]
def rT (g : Nat) : Vt := .mk 5 [] ⟨none, 0, []⟩ (some ⟨g, 0, none⟩) 1 [leafT 3 [49]]
def rT2 (g : Nat) : Vt := .mk 5 [] ⟨none, 0, []⟩ (some ⟨g, 0, none⟩) 2 [leafT 3 [49], leafT 3 [50]]
def jT (g : Nat) : Vt := .mk 5 [] ⟨none, 0, []⟩ (some ⟨g, 0, none⟩) 1 [leafT 3 [50]]
def zT (gi gj : Nat) : Vt := .mk 5 [] ⟨none, 0, []⟩ (some ⟨gi, 0, none⟩) 2 [leafT 3 [49], jT gj]
def GetB (V : World) (e : Ending) (V' : World) : Prop := ∃ (ko : Option Addr) (kc : Nat) (o : Option Addr) (c : Nat), e = .returned (.tuple #[.agg #[.int .i64 3, .string (st [50]), .slice ko 0 kc, .slice o 0 c], .bool true]) ∧ Below V.heap.size V V'
def IsX (a : Value) (V : World) : Prop := ∃ y : Vt, a = y.v ∧ y.Ok V ∧ y.m = xL
def SrtB (V : World) (e : Ending) (V' : World) : Prop := ∃ a : Value, e = .returned a ∧ Hq (IsX a V') ∧ Below V.heap.size V V'
end Go.Proofs.YtmadgdafgkleiaaGreatDoor

namespace Go.Proofs.YtmadgdafgkleiaaGreatDoor
open Go.RowKit
def pT (gk gi gr : Nat) : Vt := .mk 6 [] ⟨some ⟨gk, 0, none⟩, 1, [[97]]⟩ (some ⟨gr, 0, none⟩) 1 [.mk 5 [] ⟨none, 0, []⟩ (some ⟨gi, 0, none⟩) 2 [leafT 3 [49], leafT 3 [50]]]
def pL : Vl := .mk 6 [] [[97]] [.mk 5 [] [] [oneL, twoL]]
def PcPost (la lb : List Bs) (w : World) (e : Ending) (w' : World) : Prop := e = .returned (.int .i64 (lexM cmpB la lb)) ∧ Below w.heap.size w w'
end Go.Proofs.YtmadgdafgkleiaaGreatDoor

namespace Go.Proofs.YtmadgdafgkleiaaGreatDoor
open Go.RowKit
end Go.Proofs.YtmadgdafgkleiaaGreatDoor

