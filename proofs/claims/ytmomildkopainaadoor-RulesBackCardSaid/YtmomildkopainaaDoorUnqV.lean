/-
  WALKS: quote.Unquote, quote.End.
-/
import Derived.Test.YtmomildkopainaaDoorUnqT
import Derived.Test.YtmomildkopainaaDoorUnqEnd
namespace Go.Proofs.YtmomildkopainaaDoor
open Go.RowKit

set_option maxHeartbeats 1000000 in
set_option maxRecDepth 1000000 in
theorem unquote_any (s : ByteArray) (w : World) (hT : tabs w) (hs : s.size ≤ 1099511627776) :
    Calls Tryd.prog 63 #[.string s] w (UnqPost (unquoteM s) w) := by
  have hbd : Bld w.heap.size w.heap.size [] (w.alloc (.cells #[.pointer none, .slice none 0 0] 81)) := Lib.IsBuilderF.of (Lib.fresh_isBuilder _ _ _)
  have hSC := scan_unq s 0 w.heap.size w.heap.size _ (fun W hW => tabs_grow hT ((below_alloc w _).trans hW)) hbd (Nat.zero_le _) hs
  have hN : unquoteM s = if (scanM s 0).2.1 ≠ 0 then ([], (scanM s 0).1, (scanM s 0).2.1) else if (scanM s 0).1 ≠ s.size then ([], (scanM s 0).1, 2) else (encAll (scanM s 0).2.2, (scanM s 0).1, 0) := rfl
  generalize unquoteM s = U at *
  generalize scanM s 0 = x at *
  obtain ⟨xp, xe, xr⟩ := x
  have HSC := hq hSC
  have HN := hq hN
  clear hT hbd hSC hN
  have hmf : ∀ fn first cap w, (Instr.makeFunc fn first cap).run Tryd.prog w = .ok (.func fn first cap) w := fun _ _ _ _ => rfl
  by_cases he : xe = 0
  · have e1 : (xe != 0) = false := by rw [he]; rfl
    by_cases hp : xp = s.size
    · have e2 : ((xp : Int) != (s.size : Int)) = false := by rw [hp]; exact bne_self_eq_false _
      have HN2 := hq (HN.o.trans ((if_neg (fun h => h he)).trans (if_neg (fun h => h hp))))
      clear he hp HN
      go_enter Tryd.func63, Tryd.ntmps63
      go_wp2_with fail
      refine HSC.o.mono ?_
      rintro e w1 ⟨rfl, hb1, hb2⟩
      have hb3 : Below w.heap.size w w1 := (below_alloc w _).trans hb2
      have hS := Tryd.Builder_String_any_k w.heap.size w.heap.size _ w1 hb1 (by have := hb3.size; omega)
      have HS := hq hS
      clear hS HSC hb1 hb2
      go_wp2_with fail
      refine HS.o.mono ?_
      rintro e w4 ⟨rfl, _, h5, _⟩
      go_wp2_with fail
      go_ret3
      exact ⟨by rw [HN2.o]; rfl, hb3.trans h5⟩
    · have e2 : ((xp : Int) != (s.size : Int)) = true := bne_iff_ne.2 (by omega)
      have HN2 := hq (HN.o.trans ((if_neg (fun h => h he)).trans (if_pos hp)))
      clear he hp HN
      go_enter Tryd.func63, Tryd.ntmps63
      go_wp2_with fail
      refine HSC.o.mono ?_
      rintro e w1 ⟨rfl, hb1, hb2⟩
      have hb3 : Below w.heap.size w w1 := (below_alloc w _).trans hb2
      clear HSC hb1 hb2
      go_wp2_with fail
      go_ret3
      exact ⟨by rw [HN2.o]; rfl, hb3⟩
  · have e1 : (xe != 0) = true := bne_iff_ne.2 he
    have HN2 := hq (HN.o.trans (if_pos he))
    clear he HN
    go_enter Tryd.func63, Tryd.ntmps63
    go_wp2_with fail
    refine HSC.o.mono ?_
    rintro e w1 ⟨rfl, hb1, hb2⟩
    have hb3 : Below w.heap.size w w1 := (below_alloc w _).trans hb2
    clear HSC hb1 hb2
    go_wp2_with fail
    go_ret3
    exact ⟨by rw [HN2.o]; rfl, hb3⟩

end Go.Proofs.YtmomildkopainaaDoor
