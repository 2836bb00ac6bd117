/-
  WALKS: the document's layer 8: blanks.
-/
import Derived.Test.YtnlkokgekjlmmaaGreatDoorPrM
namespace Go.Proofs.YtnlkokgekjlmmaaGreatDoor
open Go.RowKit

set_option maxHeartbeats 4000000 in
set_option maxRecDepth 1000000 in
theorem rblanks (n : Nat) (w : World) (hn : n ≤ 1000000) : Calls Tryz.prog 99 #[.int .i64 (n : Int)] w fun e w' => e = .returned (.string (st (List.replicate n 32))) ∧ Below w.heap.size w w' := by
  have HP : Hq (∀ s W', s = st (List.replicate n 32) → Below w.heap.size w W' → (fun (e : Ending) (w' : World) => e = .returned (.string (st (List.replicate n 32))) ∧ Below w.heap.size w w') (.returned (.string s)) W') := hq (fun s W' h1 h2 => ⟨by rw [h1], h2⟩)
  generalize (fun (e : Ending) (w' : World) => e = .returned (.string (st (List.replicate n 32))) ∧ Below w.heap.size w w') = PP at *
  have HB := hq (Below.refl w.heap.size w)
  go_enter Tryz.func99, Tryz.ntmps99
  go_wp2_with fail
  go_loopw [3, 4] (fun a i wr => ∃ j : Nat, j ≤ n ∧ a = .string (st (List.replicate j 32)) ∧ i = .int .i64 (j : Int) ∧ Hq (Below w.heap.size w wr)) (fun _ i _ => n - (intOf i).toNat)
  case atStart => exact ⟨0, Nat.zero_le _, rfl, rfl, HB⟩
  case round =>
    obtain ⟨j, hj, rfl, rfl, hb⟩ := hrel
    by_cases h : j < n
    · have hz : (j : Int) < (n : Int) := by omega
      go_wp2_with fail
      go_roundw
      case rel => exact ⟨j + 1, h, by rw [List.replicate_succ', ← cat_st], int_eq (by omega), hb⟩
      case measure => (try simp [intOf]); omega
    · have hz : ¬ (j : Int) < (n : Int) := by omega
      have e : j = n := by omega
      subst e
      have HV := hq (HP.o _ wr rfl hb.o)
      clear HP
      go_wp2_with fail
      first
        | exact HV.o
        | (go_ret
           exact HV.o)

end Go.Proofs.YtnlkokgekjlmmaaGreatDoor
