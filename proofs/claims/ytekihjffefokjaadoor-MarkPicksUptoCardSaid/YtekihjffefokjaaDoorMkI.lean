/-
  WALKS: mark.lines, its iterator.
-/
import Derived.Test.YtekihjffefokjaaDoorRngB
import Derived.Test.YtekihjffefokjaaDoorMxM
namespace Go.Proofs.YtekihjffefokjaaDoor
open Go.RowKit Go.Shelf
attribute [local go_sem] Oper.semAt_some

/-- what a round keeps: what lay below n₀, and the iterator's box -/
def KpX (n₀ Bn : Nat) (A B : World) : Prop := Below n₀ A B ∧ B.heap[Bn]? = A.heap[Bn]?
def moreN : Value → Nat
  | .bool true => 1
  | _ => 0
def boxLen (w : World) (B : Nat) : Nat := match w.cell? ⟨B, 0, none⟩ with
  | some (.string s) => s.size
  | _ => 0
theorem boxLen_is {w : World} {B : Nat} {t : TypeId} {r : Bs} (h : Boxed w B t (.string (st r))) : boxLen w B = r.length := by
  unfold boxLen
  rw [h.cell]
  exact st_size r
theorem abides_belowX {α : Type} {J : List α → World → Prop} {B : Nat} (h : AbidesFrom B J) : ∀ pre A C, J pre A → Below A.heap.size A C → J pre C :=
  fun pre A C hj hb => h pre A C none hj ⟨hb.os, hb.tape, hb.output, hb.size, fun k hk _ => hb.block k hk⟩ (fun r e => by cases e)

set_option maxRecDepth 100000 in
set_option maxHeartbeats 2000000 in
theorem lines_gives (Bn n₀ : Nat) (s : Bs) (hs : s.length < 4294967281) (w : World) (hBn : Boxed w Bn 9 (.string (st s))) (hm : ∀ A, Below n₀ w A → mx A) (hn₀ : n₀ ≤ w.heap.size) (hnB : n₀ ≤ Bn) :
    GivesB Fence.wide 9 Tryd.prog 101 #[.pointer (some ⟨Bn, 0, none⟩)] (fun x : Bs => #[.string (st x)]) (KpX n₀ Bn) Bn (linesL s) w := by
  intro l J W hW hJ hF hY h0
  have hB0 : Boxed W Bn 9 (.string (st s)) := (hW.block Bn hBn.lt).trans hBn
  have HM := hq (fun A (hA : Below n₀ W A) => hm A ((hW.mono hn₀).trans hA))
  have hsz : n₀ ≤ W.heap.size := Nat.le_trans hn₀ hW.size
  have HJ := hq (abides_belowX hJ)
  have HF := hq hF
  have HY := hq hY
  have HB := hq hB0
  have HL : Hq (linesL s = [] ++ (if true = true then linesF (s.length + 1) s else [])) := hq rfl
  clear hW hJ hF hY hBn hm hn₀
  generalize linesL s = LL at *
  refine callsIn_of_wp Tryd.func101 rfl trivial ?_ rfl
  simp only [Tryd.ntmps101, List.size_toArray, List.length_cons, List.length_nil, Nat.reduceAdd, Nat.reduceSub, Array.replicate_succ, Array.replicate_zero, List.push_toArray, List.append_toArray, List.nil_append, List.cons_append]
  clear hB0
  gi_wp2
  gi_loopw [3] (fun m wr => ∃ (r : Bs) (pre : List Bs) (f : Nat) (more : Bool), m = .bool more ∧ Boxed wr Bn 9 (.string (st r)) ∧ J pre wr ∧ Below n₀ W wr ∧ Hq (LL = pre ++ (if more = true then linesF f r else [])) ∧ r.length < f ∧ r.length ≤ s.length) (fun m wr => moreN m * (boxLen wr Bn + 1))
  case atStart => exact ⟨s, [], s.length + 1, true, rfl, HB.o, h0, Below.refl _ _, HL, Nat.lt_succ_self _, Nat.le_refl _⟩
  case round =>
    obtain ⟨r, pre, f, more, rfl, hbox, hj, hb, hl, hf, hrs⟩ := hrel
    clear HL HB h0
    cases more with
    | false =>
      have HN : Hq (LL = pre) := hq (by rw [hl.o]; simp)
      clear hl
      gi_wp2
      go_end0
      exact ⟨⟨_, rfl⟩, by rw [HN.o]; exact hj⟩
    | true =>
      obtain ⟨f, rfl⟩ : ∃ g, f = g + 1 := ⟨f - 1, by omega⟩
      have hc0 := hbox.cell
      have hfz := hbox.frozen
      have hmw := HM.o _ hb
      have HBL := hq (boxLen_is hbox)
      have hws := hb.size
      cases hc : cutL [10] r with
      | none =>
        have HC := hq (cut_no_any r [10] wr hmw (by omega) (by simp) hc)
        clear hmw
        have hll : LL = pre ++ [r] := by rw [hl.o, if_pos rfl, linesF_none hc]
        have HLL := hq hll
        have HPR : Hq (pre ++ [r] <+: LL) := hq (by rw [hll]; exact List.prefix_refl _)
        clear hl hc hll
        gi_wp2_with (refine ⟨trivial, ?_⟩; gi_at_call 62; refine (callsIn_wide.2 HC.o).mono ?_; rintro e' w2 ⟨rfl, k, rfl⟩; have hj2 := HF.o _ _ (.string (st [])) (HJ.o _ _ _ hj (below_drawn (Below.refl wr.heap.size wr) k)); obtain ⟨fn, tmps, assign, body, hy, hR⟩ := HY.o pre r _ hj2 HPR.o)
        refine hR.mono ?_
        rintro e' W3 ⟨rfl, hJ3, hk3⟩
        gi_wp2
        go_roundw
        case rel =>
          have hbx := (show Boxed (wr.drewN k) Bn 9 (.string (st r)) from hbox).set (.string (st []))
          exact ⟨[], pre ++ [r], 1, false, rfl, hk3.2.trans hbx, hJ3, ((below_drawn hb k).setCell (p := ⟨Bn, 0, none⟩) hnB _).trans hk3.1, hq (by rw [HLL.o]; simp), Nat.zero_lt_one, Nat.zero_le _⟩
        case measure =>
          rw [HBL.o]
          simp [moreN]
      | some x =>
        obtain ⟨u, v⟩ := x
        have HC := hq (cut_yes_any r [10] u v wr hmw (by omega) (by simp) hc)
        clear hmw
        have hlen := cutL_len hc
        rw [List.length_singleton] at hlen
        have hll : LL = (pre ++ [u]) ++ linesF f v := by rw [hl.o, if_pos rfl, linesF_some hc]; simp
        have HLL := hq hll
        have HPR : Hq (pre ++ [u] <+: LL) := hq (by rw [hll]; exact List.prefix_append _ _)
        clear hl hc hll
        gi_wp2_with (refine ⟨trivial, ?_⟩; gi_at_call 62; refine (callsIn_wide.2 HC.o).mono ?_; rintro e' w2 ⟨rfl, k, rfl⟩; have hj2 := HF.o _ _ (.string (st v)) (HJ.o _ _ _ hj (below_drawn (Below.refl wr.heap.size wr) k)); obtain ⟨fn, tmps, assign, body, hy, hR⟩ := HY.o pre u _ hj2 HPR.o)
        refine hR.mono ?_
        rintro e' W3 ⟨rfl, hJ3, hk3⟩
        gi_wp2
        go_roundw
        case rel =>
          have hbx := (show Boxed (wr.drewN k) Bn 9 (.string (st r)) from hbox).set (.string (st v))
          exact ⟨v, pre ++ [u], f, true, rfl, hk3.2.trans hbx, hJ3, ((below_drawn hb k).setCell (p := ⟨Bn, 0, none⟩) hnB _).trans hk3.1, hq (by rw [HLL.o, if_pos rfl]), by omega, by omega⟩
        case measure =>
          have hbx := (show Boxed (wr.drewN k) Bn 9 (.string (st r)) from hbox).set (.string (st v))
          have h3 := boxLen_is (show Boxed W3 Bn 9 (.string (st v)) from hk3.2.trans hbx)
          rw [HBL.o, h3]
          simp [moreN]
          omega

set_option maxHeartbeats 400000 in
theorem lines_any (s : ByteArray) (w : World) : Calls Tryd.prog 81 #[.string s] w fun e w' => e = .returned (.func (.func 101) #[] #[.pointer (some ⟨w.heap.size, 0, none⟩)]) ∧ w' = w.alloc (.cells #[.string s] 9) := by
  have hmf : ∀ fn first cap w, (Instr.makeFunc fn first cap).run Tryd.prog w = .ok (.func fn first cap) w := fun _ _ _ _ => rfl
  go_enter Tryd.func81, Tryd.ntmps81
  go_wp2_with fail
  go_ret
  exact ⟨rfl, rfl⟩
end Go.Proofs.YtekihjffefokjaaDoor
