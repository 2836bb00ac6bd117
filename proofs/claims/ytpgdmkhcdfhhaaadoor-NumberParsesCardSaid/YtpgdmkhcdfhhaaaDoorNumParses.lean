/-
  WALK: the law NumberParses.
-/
import Derived.Test.YtpgdmkhcdfhhaaaDoorNumRefQ
import Derived.Test.YtpgdmkhcdfhhaaaDoorNumSmall
import Derived.Test.YtpgdmkhcdfhhaaaDoorNumEq
namespace Go.Proofs.YtpgdmkhcdfhhaaaDoor
open Go.RowKit

set_option maxHeartbeats 1000000 in
set_option maxRecDepth 1000000 in
theorem numberParses (l : Bs) (w : World) (hl : l.length ≤ 9223372036854775807) :
    Calls Tryd.prog 4 #[.string (st l)] w fun e w' => e = .returned (.bool true) ∧ Below w.heap.size w w' := by
  go_enter Tryd.func4, Tryd.ntmps4
  go_wp2_with fail
  refine (small_any _).mono ?_
  rintro e w1 ⟨rfl, hb⟩
  by_cases hl2 : 4096 < l.length
  · go_wp2_with fail
    go_ret
    exact ⟨rfl, hb⟩
  · have hp := fun W => parse_any (st l) W (by rw [st_size]; omega)
    rw [st_list] at hp
    have hq1 := fun W => rparse_any l W (by omega)
    generalize parseM l = R at *
    obtain ⟨⟨n, D, E⟩, x⟩ := R
    have HP := hq hp
    have HQ := hq hq1
    clear hp hq1
    go_wp2_with fail
    refine (HP.o _).mono ?_
    rintro e w2 ⟨rfl, hb2⟩
    simp only [Dec.val]
    have hb' := below_trans hb hb2
    clear hb hb2
    have hlt1 := hb'.size
    have hA := Whole.made w2 23 #[.bool n, .string (st D), .int .i64 E]
    have hb : Below w.heap.size w (w2.alloc (.cells #[.bool n, .string (st D), .int .i64 E] 23)) := hb'.alloc hlt1 _
    clear hb'
    go_wp2_with fail
    refine (HQ.o _).mono ?_
    rintro e w3 ⟨rfl, hb3⟩
    simp only [Dec.val]
    have hb' := below_trans hb hb3
    have hA3 := hA.grow hb3
    clear hb hb3 hA
    have hlt3 := hb'.size
    have hA4 := hA3.alloc (.cells #[.bool n, .string (st D), .int .i64 E] 23)
    have hB4 := Whole.made w3 23 #[.bool n, .string (st D), .int .i64 E]
    have hb4 : Below w.heap.size w (w3.alloc (.cells #[.bool n, .string (st D), .int .i64 E] 23)) := hb'.alloc hlt3 _
    clear hb' hA3
    obtain ⟨a0, a1, a2⟩ := three_cells hA4
    obtain ⟨b0, b1, b2⟩ := three_cells hB4
    have heq := eq_dec n D E n D E
    rw [decide_eq_true rfl] at heq
    go_wp2_with fail
    go_ret
    exact ⟨rfl, hb4⟩
theorem numberParsesB (s : ByteArray) (w : World) (hs : s.size ≤ maxLen) :
    Calls Tryd.prog 4 #[.string s] w fun e w' => e = .returned (.bool true) ∧ Below w.heap.size w w' := by
  have h := numberParses s.data.toList w (by rw [← size_list]; unfold maxLen at hs; omega)
  rwa [st_of] at h
end Go.Proofs.YtpgdmkhcdfhhaaaDoor
