/-
  WALKS: quote.Unquote, quote.End.
-/
import Derived.Test.YtpgdmkhcdfhhaaaDoorUnqT
namespace Go.Proofs.YtpgdmkhcdfhhaaaDoor
open Go.RowKit

def UnqPost (u : Bs × Nat × Int) (w : World) (e : Ending) (w' : World) : Prop := e = .returned (.tuple #[.string (st u.1), .int .i64 (u.2.1 : Int), .int .i64 u.2.2]) ∧ Below w.heap.size w w'
set_option maxHeartbeats 1000000 in
set_option maxRecDepth 1000000 in
theorem unquote_any (s : ByteArray) (w : World) (hT : tabs w) (hs : s.size ≤ 1099511627776) :
    Calls Tryd.prog 32 #[.string s] w (UnqPost (unquoteM s) w) := by
  have hbd : Bld w.heap.size w.heap.size [] (w.alloc (.cells #[.pointer none, .slice none 0 0] 69)) := Lib.IsBuilderF.of (Lib.fresh_isBuilder _ _ _)
  have hSC := scan_unq s 0 w.heap.size w.heap.size _ (fun W hW => tabs_grow hT ((below_alloc w _).trans hW)) hbd (Nat.zero_le _) hs
  have hN : unquoteM s = if (scanM s 0).2.1 ≠ 0 then ([], (scanM s 0).1, (scanM s 0).2.1) else if (scanM s 0).1 ≠ s.size then ([], (scanM s 0).1, 2) else (encAll (scanM s 0).2.2, (scanM s 0).1, 0) := rfl
  generalize unquoteM s = U at *
  generalize scanM s 0 = x at *
  obtain ⟨xp, xe, xr⟩ := x
  have HSC := hq hSC
  have HN := hq hN
  clear hT hbd hSC hN
  have hmf : ∀ fn first cap w, (Instr.makeFunc fn first cap).run Tryd.prog w = .ok (.func fn first cap) w := fun _ _ _ _ => rfl
  by_cases he : xe = 0
  · have e1 : (xe != 0) = false := by rw [he]; rfl
    by_cases hp : xp = s.size
    · have e2 : ((xp : Int) != (s.size : Int)) = false := by rw [hp]; exact bne_self_eq_false _
      have HN2 := hq (HN.o.trans ((if_neg (fun h => h he)).trans (if_neg (fun h => h hp))))
      clear he hp HN
      go_enter Tryd.func32, Tryd.ntmps32
      go_wp2_with fail
      refine HSC.o.mono ?_
      rintro e w1 ⟨rfl, hb1, hb2⟩
      have hb3 : Below w.heap.size w w1 := (below_alloc w _).trans hb2
      have hS := Tryd.Builder_String_any_k w.heap.size w.heap.size _ w1 hb1 (by have := hb3.size; omega)
      have HS := hq hS
      clear hS HSC hb1 hb2
      go_wp2_with fail
      refine HS.o.mono ?_
      rintro e w4 ⟨rfl, _, h5, _⟩
      go_wp2_with fail
      go_ret3
      exact ⟨by rw [HN2.o]; rfl, hb3.trans h5⟩
    · have e2 : ((xp : Int) != (s.size : Int)) = true := bne_iff_ne.2 (by omega)
      have HN2 := hq (HN.o.trans ((if_neg (fun h => h he)).trans (if_pos hp)))
      clear he hp HN
      go_enter Tryd.func32, Tryd.ntmps32
      go_wp2_with fail
      refine HSC.o.mono ?_
      rintro e w1 ⟨rfl, hb1, hb2⟩
      have hb3 : Below w.heap.size w w1 := (below_alloc w _).trans hb2
      clear HSC hb1 hb2
      go_wp2_with fail
      go_ret3
      exact ⟨by rw [HN2.o]; rfl, hb3⟩
  · have e1 : (xe != 0) = true := bne_iff_ne.2 he
    have HN2 := hq (HN.o.trans (if_pos he))
    clear he HN
    go_enter Tryd.func32, Tryd.ntmps32
    go_wp2_with fail
    refine HSC.o.mono ?_
    rintro e w1 ⟨rfl, hb1, hb2⟩
    have hb3 : Below w.heap.size w w1 := (below_alloc w _).trans hb2
    clear HSC hb1 hb2
    go_wp2_with fail
    go_ret3
    exact ⟨by rw [HN2.o]; rfl, hb3⟩

/-- what End answers -/
def endM (s : ByteArray) (a : Int) : Nat × Int := if a < 0 ∨ (s.size : Int) < a then (0, 2) else ((scanM s a.toNat).1, (scanM s a.toNat).2.1)
set_option maxHeartbeats 1000000 in
set_option maxRecDepth 1000000 in
theorem end_any (s : ByteArray) (a : Int) (w : World) (hT : tabs w) (hs : s.size ≤ 1099511627776) (ha : -9223372036854775808 ≤ a ∧ a ≤ 9223372036854775807) :
    Calls Tryd.prog 34 #[.string s, .int .i64 a] w (ScanPost (endM s a) w) := by
  obtain ⟨ha1, ha2⟩ := ha
  by_cases h0 : a < 0
  · have HN : Hq (endM s a = (0, 2)) := hq (by unfold endM; rw [if_pos (.inl h0)])
    generalize endM s a = R at *
    go_enter Tryd.func34, Tryd.ntmps34
    go_wp2_with fail
    go_ret2
    exact ⟨by rw [HN.o]; rfl, Below.refl _ _⟩
  · by_cases h1 : (s.size : Int) < a
    · have HN : Hq (endM s a = (0, 2)) := hq (by unfold endM; rw [if_pos (.inr h1)])
      generalize endM s a = R at *
      go_enter Tryd.func34, Tryd.ntmps34
      go_wp2_with fail
      go_ret2
      exact ⟨by rw [HN.o]; rfl, Below.refl _ _⟩
    · obtain ⟨k, rfl⟩ := Int.eq_ofNat_of_zero_le (Int.not_lt.1 h0)
      have HN : Hq (endM s k = ((scanM s k).1, (scanM s k).2.1)) := hq (by unfold endM; rw [if_neg (by omega)]; rfl)
      have hks : k ≤ s.size := by omega
      have HSC := hq (scan_end s k w hT hks hs)
      generalize endM s k = R at *
      generalize scanM s k = x at *
      clear hT h0 h1
      have h0 : ¬ (k : Int) < 0 := by omega
      have h1 : (k : Int) ≤ (s.size : Int) := by omega
      go_enter Tryd.func34, Tryd.ntmps34
      go_wp2_with fail
      refine HSC.o.mono ?_
      rintro e w1 ⟨rfl, hb1⟩
      clear HSC
      go_wp2_with fail
      go_ret2
      exact ⟨by rw [HN.o]; rfl, hb1⟩
end Go.Proofs.YtpgdmkhcdfhhaaaDoor
