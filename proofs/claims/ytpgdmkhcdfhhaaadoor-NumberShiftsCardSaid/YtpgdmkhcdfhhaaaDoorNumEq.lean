/-
  TWO NUMBERS COMPARED BY ==.
-/
import Derived.Test.YtpgdmkhcdfhhaaaDoorNumRight
namespace Go.Proofs.YtpgdmkhcdfhhaaaDoor
open Go.RowKit

theorem st_inj {a b : Bs} (h : st a = st b) : a = b := by
  have := congrArg (fun s : ByteArray => s.data.toList) h
  simpa [st_list] using this
set_option maxRecDepth 100000 in
theorem eq_dec (na : Bool) (DA : Bs) (EA : Int) (nb : Bool) (DB : Bs) (EB : Int) : ∀ W : World, (Op.equalIn 10000 23 (.agg #[.bool na, .string (st DA), .int .i64 EA]) (.agg #[.bool nb, .string (st DB), .int .i64 EB])).run Tryd.prog W = .ok (decide (Dec.mk na DA EA = Dec.mk nb DB EB)) W := by
  intro W
  have h23 := Tryd.underlying23
  have hst : Tryd.prog.stoodInHeld 23 = false := by kernel_rfl
  have key : decide (Dec.mk na DA EA = Dec.mk nb DB EB) = decide (na = nb ∧ DA = DB ∧ EA = EB) := decide_eq_decide.2 (by rw [Dec.mk.injEq])
  rw [key]
  cases na <;> cases nb <;> by_cases hD : DA = DB <;> by_cases hE : EA = EB
  all_goals (first | subst hD | (have hS : st DA ≠ st DB := fun h => hD (st_inj h)))
  all_goals (try subst hE)
  all_goals go_simp
end Go.Proofs.YtpgdmkhcdfhhaaaDoor
