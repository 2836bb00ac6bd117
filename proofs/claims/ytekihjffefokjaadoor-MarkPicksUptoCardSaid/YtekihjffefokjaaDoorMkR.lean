/-
  WALKS: mark.Right, mark.hunks.
-/
import Derived.Test.YtekihjffefokjaaDoorMkB
import Derived.Test.YtekihjffefokjaaDoorPrtA
import Derived.Test.YtekihjffefokjaaDoorYlA
namespace Go.Proofs.YtekihjffefokjaaDoor
open Go.RowKit

set_option maxHeartbeats 1000000 in
set_option maxRecDepth 1000000 in
theorem hunks_any (o : Option Addr) (cap : Nat) (l : List MPart) (w : World) (hl : l.length ≤ cap) (hc : cap ≤ maxLen) (hin : PartsIn w o l) :
    Calls Tryd.prog 52 #[.slice o l.length cap] w fun e w' => e = .returned (.bool (anyH l)) ∧ Below w.heap.size w w' := by
  unfold maxLen at hc
  have HIN := hq hin
  have HV : Hq (anyH l = anyH (l.drop 0)) := hq rfl
  generalize anyH l = V at *
  clear hin
  go_enter Tryd.func52, Tryd.ntmps52
  go_wp2_with fail
  go_loopw [7] (fun i wr => ∃ k : Nat, k ≤ l.length ∧ i = .int .i64 (k : Int) ∧ Hq (V = anyH (l.drop k)) ∧ Below w.heap.size w wr) (fun i _ => l.length - (intOf i).toNat)
  case atStart => exact ⟨0, Nat.zero_le _, rfl, HV, Below.refl _ _⟩
  case round =>
    obtain ⟨k, hk, rfl, hv, hb⟩ := hrel
    clear HV
    by_cases h : k < l.length
    · obtain ⟨b, f, rfl, hp⟩ := HIN.o k h
      obtain ⟨c0, c1, c2, c3, c4⟩ := hp.grow hb
      have hsz := hb.size
      have HS : Hq (V = (l[k].hunk || anyH (l.drop (k + 1)))) := hq (hv.o.trans (anyH_step h))
      clear hv hp HIN
      generalize l[k] = x at *
      cases hx : x.hunk with
      | true =>
        rw [hx] at c0
        have HN : Hq (V = true) := hq (by rw [HS.o, hx]; rfl)
        clear HS hx
        go_wp2_with fail
        go_ret
        exact ⟨by rw [HN.o]; rfl, hb.alloc hsz _⟩
      | false =>
        rw [hx] at c0
        have HN : Hq (V = anyH (l.drop (k + 1))) := hq (by rw [HS.o, hx]; rfl)
        clear HS hx
        go_wp2_with fail
        go_roundw
        case rel => exact ⟨k + 1, h, int_eq (by omega), HN, hb.alloc hsz _⟩
        case measure => simp [intOf]; omega
    · have h' : ¬ (k : Int) < (l.length : Int) := by omega
      have HN : Hq (V = false) := hq (hv.o.trans (anyH_end h))
      clear hv h
      go_wp2_with fail
      go_ret
      exact ⟨by rw [HN.o]; rfl, hb⟩

theorem eq_sides (A B C : Bs) (r : Bool) (h : (A.isEmpty && (B.isEmpty && C.isEmpty)) = r) : ∀ W : World, (Op.equalIn 10000 51 (.agg #[.string (st A), .string (st B), .string (st C)]) (.agg #[.string ⟨#[]⟩, .string ⟨#[]⟩, .string ⟨#[]⟩])).run Tryd.prog W = .ok r W := by
  intro W
  have h1 := Tryd.underlying51
  have h2 := Tryd.underlying9
  have hst2 : Tryd.prog.stoodInHeld 51 = false := by kernel_rfl
  obtain ⟨i, hi⟩ := Option.isSome_iff_exists.1 (show (Tryd.prog.info? 9).isSome = true by kernel_rfl)
  have hc : Tryd.prog.cellsOf 9 = 1 := by kernel_rfl
  subst h
  refine (Go.run_equalIn_array W 9999 _ _ h1 hi).trans ?_
  have hr : List.range 3 = [0, 1, 2] := rfl
  rw [hr, hc]
  simp only [Op.eqItems]
  go_simp
  cases A <;> cases B <;> cases C <;> simp

set_option maxHeartbeats 2000000 in
set_option maxRecDepth 1000000 in
theorem mright_any (o : Option Addr) (cap : Nat) (l : List MPart) (w : World) (_hl : l.length ≤ cap) (_hc : cap ≤ maxLen) (hin : PartsIn w o l) :
    Calls Tryd.prog 28 #[.slice o l.length cap] w fun e w' => e = .returned (.bool (rightB l)) ∧ Below w.heap.size w w' := by
  unfold maxLen at _hc
  have HIN := hq hin
  clear hin
  by_cases hbig : 4096 < l.length
  · have HN : Hq (rightB l = false) := hq (by unfold rightB; rw [decide_eq_false (by omega)]; rfl)
    have b1 : (4096 : Int) < (l.length : Int) := by omega
    generalize rightB l = V at *
    go_enter Tryd.func28, Tryd.ntmps28
    go_wp2_with fail
    go_ret
    exact ⟨by rw [HN.o]; rfl, Below.refl _ _⟩
  · have HV : Hq (rightB l = okB (flagB l 0) (l.drop 0)) := hq (by unfold rightB; rw [decide_eq_true (by omega)]; rfl)
    have b1 : ¬ (4096 : Int) < (l.length : Int) := by omega
    generalize rightB l = V at *
    go_enter Tryd.func28, Tryd.ntmps28
    go_wp2_with fail
    go_loopw [10] (fun i wr => ∃ k : Nat, k ≤ l.length ∧ i = .int .i64 (k : Int) ∧ Hq (V = okB (flagB l k) (l.drop k)) ∧ Below w.heap.size w wr) (fun i _ => l.length - (intOf i).toNat)
    case atStart => exact ⟨0, Nat.zero_le _, rfl, HV, Below.refl _ _⟩
    case round =>
      obtain ⟨k, hk, rfl, hv, hb⟩ := hrel
      clear HV
      by_cases h : k < l.length
      · have hpr : k ≠ 0 → ∃ b f, o = some ⟨b, f, none⟩ ∧ wr.cell? ⟨b, f + (k - 1) * 5, none⟩ = some (.bool (flagB l k)) := fun h0 => by
          obtain ⟨b, f, h1, h2⟩ := HIN.o (k - 1) (by omega)
          refine ⟨b, f, h1, ?_⟩
          rw [(h2.grow hb).c0]
          obtain ⟨j, rfl⟩ : ∃ j, k = j + 1 := ⟨k - 1, by omega⟩
          rw [flagB_succ (by omega)]
          rfl
        obtain ⟨b, f, rfl, hp⟩ := HIN.o k h
        obtain ⟨c0, c1, c2, c3, c4⟩ := hp.grow hb
        have hsz := hb.size
        have hbl : b < wr.heap.size := (hp.grow hb).lt
        have HPR : Hq (k ≠ 0 → wr.cell? ⟨b, f + (k - 1) * 5, none⟩ = some (.bool (flagB l k))) := hq (fun h0 => by
          obtain ⟨b', f', h1, h2⟩ := hpr h0
          injection h1 with h1
          injection h1 with h1 h3
          rw [h1, h3]; exact h2)
        have HS : Hq (V = if l[k].hunk = true then l[k].text.isEmpty && okB (flagB l (k + 1)) (l.drop (k + 1)) else textB (flagB l k) l[k] && okB (flagB l (k + 1)) (l.drop (k + 1))) := hq (hv.o.trans (okB_step h))
        have HF0 : Hq (k = 0 → flagB l k = true) := hq (fun h => by rw [h]; rfl)
        clear hv hp HIN hpr
        generalize l[k] = x at *
        generalize flagB l k = F at *
        obtain ⟨xh, T, S0, S1, S2⟩ := x
        simp only at c0 c1 c2 c3 c4 HS
        cases xh with
        | true =>
          cases hT : T.isEmpty with
          | true =>
            have HN : Hq (V = okB (flagB l (k + 1)) (l.drop (k + 1))) := hq (by rw [HS.o, if_pos rfl, hT]; rfl)
            clear HS HPR HF0
            go_wp2_with fail
            go_roundw
            case rel => exact ⟨k + 1, h, int_eq (by omega), HN, hb.alloc hsz _⟩
            case measure => simp [intOf]; omega
          | false =>
            have HN : Hq (V = false) := hq (by rw [HS.o, if_pos rfl, hT]; rfl)
            clear HS HPR HF0
            go_wp2_with fail
            go_ret
            exact ⟨by rw [HN.o]; rfl, hb.alloc hsz _⟩
        | false =>
          cases hT : T.isEmpty with
          | true =>
            have HN : Hq (V = false) := hq (by rw [HS.o, if_neg Bool.false_ne_true]; unfold textB; simp only; rw [hT]; simp)
            clear HS HPR HF0
            go_wp2_with fail
            go_ret
            exact ⟨by rw [HN.o]; rfl, hb.alloc hsz _⟩
          | false =>
            cases hS : (S0.isEmpty && (S1.isEmpty && S2.isEmpty)) with
            | false =>
              have E := eq_sides S0 S1 S2 false hS
              have HN : Hq (V = false) := hq (by rw [HS.o, if_neg Bool.false_ne_true]; unfold textB; simp only; rw [Bool.and_assoc S0.isEmpty, hS]; simp)
              clear HS HPR HF0 hS
              go_wp2_with fail
              go_ret
              exact ⟨by rw [HN.o]; rfl, hb.alloc hsz _⟩
            | true =>
              have E := eq_sides S0 S1 S2 true hS
              have HN : Hq (V = (F && okB (flagB l (k + 1)) (l.drop (k + 1)))) := hq (by rw [HS.o, if_neg Bool.false_ne_true]; unfold textB; simp only; rw [Bool.and_assoc S0.isEmpty, hS, hT]; simp)
              clear HS hS
              by_cases h0 : k = 0
              · have HN2 : Hq (V = okB (flagB l (k + 1)) (l.drop (k + 1))) := hq (by rw [HN.o, HF0.o h0]; rfl)
                have e0 : ¬ (0 : Int) < (k : Int) := by omega
                clear HN HPR HF0 h0
                go_wp2_with fail
                go_roundw
                case rel => exact ⟨k + 1, h, int_eq (by omega), HN2, hb.alloc hsz _⟩
                case measure => simp [intOf]; omega
              · have e0 : (0 : Int) < (k : Int) := by omega
                have hpc := HPR.o h0
                have hz : ((k : Int) - 1).toNat = k - 1 := by omega
                have hk1 : k - 1 < l.length := by omega
                cases F with
                | true =>
                  have HN2 : Hq (V = okB (flagB l (k + 1)) (l.drop (k + 1))) := hq (by rw [HN.o]; rfl)
                  clear HN HPR HF0 h0
                  go_wp2_with fail
                  go_roundw
                  case rel => exact ⟨k + 1, h, int_eq (by omega), HN2, hb.alloc hsz _⟩
                  case measure => simp [intOf]; omega
                | false =>
                  have HN2 : Hq (V = false) := hq (by rw [HN.o]; rfl)
                  clear HN HPR HF0 h0
                  go_wp2_with fail
                  go_ret
                  exact ⟨by rw [HN2.o]; rfl, hb.alloc hsz _⟩
      · have h' : ¬ (k : Int) < (l.length : Int) := by omega
        have HN : Hq (V = true) := hq (hv.o.trans (okB_end h _))
        clear hv h
        go_wp2_with fail
        go_ret
        exact ⟨by rw [HN.o]; rfl, hb⟩
end Go.Proofs.YtekihjffefokjaaDoor
