/-
  WALKS: order.Once, all, say, ahead, Ahead.
-/
import Derived.Test.YtccdmoogjcgcfaaOrP
namespace Go.Proofs.Ytccdmoogjcgcfaa
open Go.RowKit Go.WideMaps Go.Maps

theorem MapsAt.cell {B : Nat} {w : World} {v : Value} {ms : List Nat} {ls : List (List Bs)} (h : MapsAt B w v ms ls) (h0 : 0 < ls.length) : ∃ g cap, v = .slice (some ⟨g, 0, none⟩) ls.length cap ∧ ls.length ≤ cap ∧ cap ≤ maxLen ∧ ∀ i, i < ls.length → w.cell? ⟨g, i, none⟩ = some (.map (some (ms.getD i 0))) := by
  rcases h.row.2 with ⟨_, h1⟩ | ⟨g, cap, cur, rfl, _, _, hc, hm, _⟩
  · omega
  · refine ⟨g, cap, rfl, hc, hm, fun i hi => ?_⟩
    have h2 := h.row.cells (g := g) rfl i (.map (some (ms.getD i 0))) (by
      rw [List.getElem?_map, List.getElem?_eq_getElem (by rw [h.len]; exact hi)]
      simp [List.getD, List.getElem?_eq_getElem (show i < ms.length by rw [h.len]; exact hi)])
    rw [Go.WideShapes.add_plain, Nat.zero_add] at h2
    exact h2
theorem look_place {w : World} {b : Nat} {l : List Bs} {x : Bs} (h : MapTo w b l.length l) (hx : x.length ≤ maxLen) :
    (Instr.lookup 45 (.map (some b)) (.string (st x)) true).run Try.prog w = .ok (.tuple #[.int .i64 (((lastIx x l).getD 0 : Nat) : Int), .bool (lastIx x l).isSome]) w := by
  have hz : plainElem (H := Unit) Try.prog 3 (.int .i64 0) = some (.lit (.int .i64 0), []) := plainElem_int Try.underlying3 (by decide)
  obtain ⟨v, ps, hrun, hv⟩ := World.ownsMap.look_ok h strKeyed Try.underlying45 (zeroInt w) hz (key_st hx)
  obtain ⟨c, rfl, hc, _⟩ := plainElem_int_inv Try.underlying3 hv
  have h1 := has_mapTo x l l.length (Nat.le_refl _)
  have h2 := at_mapTo x l (.lit (.int .i64 0)) l.length (Nat.le_refl _)
  have h3 := congrArg Prod.fst hc
  simp only at h3
  rw [h2] at h3
  rw [h1] at hrun
  rw [hrun]
  unfold lastIx
  cases hl : lastTo x l l.length with
  | none =>
    rw [hl] at h3
    injection h3 with h4
    injection h4 with h5 h6
    rw [← h6]; rfl
  | some i =>
    rw [hl] at h3
    injection h3 with h4
    injection h4 with h5 h6
    rw [← h6]; rfl
theorem look_place0 {w : World} {b : Nat} {l : List Bs} {x : Bs} (h : MapTo w b l.length l) (hx : x.length ≤ maxLen) :
    (Instr.lookup 45 (.map (some b)) (.string (st x)) false).run Try.prog w = .ok (.int .i64 (((lastIx x l).getD 0 : Nat) : Int)) w := by
  obtain ⟨c, hrun, hat, _⟩ := World.ownsMap.lookup_int h strKeyed Try.underlying45 Try.underlying3 (zeroInt w) (key_st hx)
  rw [at_mapTo x l _ l.length (Nat.le_refl _)] at hat
  rw [hrun]
  unfold lastIx
  cases hl : lastTo x l l.length with
  | none =>
    rw [hl] at hat
    injection hat with h4
    injection h4 with h5 h6
    rw [← h6]; rfl
  | some i =>
    rw [hl] at hat
    injection hat with h4
    injection h4 with h5 h6
    rw [← h6]; rfl
/-- each name no longer than memory -/
def Shorts (l : List Bs) : Prop := ∀ x ∈ l, x.length ≤ maxLen

set_option maxHeartbeats 1000000 in
set_option maxRecDepth 1000000 in
theorem once_any (o : Option Addr) (cap : Nat) (l : List Bs) (w : World) (hl : l.length ≤ cap) (hc : cap ≤ maxLen) (hin : StrsIn w o l) (hs : Shorts l) :
    Calls Try.prog 14 #[.slice o l.length cap] w fun e w' => e = .returned (.bool (onceB l)) ∧ Below w.heap.size w w' := by
  by_cases h256 : l.length ≤ 256
  · have hW := Whole.made w 22 #[.slice o l.length cap]
    have hbA := below_alloc w (.cells #[.slice o l.length cap] 22)
    have HPL := hq (places_any (some ⟨w.heap.size, 0, none⟩) 1 [⟨o, cap, l⟩] _ (Nat.le_refl 1) (by decide) (show 1 * 8 ≤ 140737488351232 by decide) (rows_whole hW rfl (fun r hr => by
      rw [List.mem_singleton] at hr
      subst hr
      exact ⟨hl, hc, hin.grow hbA⟩)) (fun r hr => by
      rw [List.mem_singleton] at hr
      subst hr
      exact hs))
    simp only [List.length_singleton, List.map_cons, List.map_nil] at HPL
    unfold PlacesPost at HPL
    have HB := hq hbA
    unfold maxLen at hc
    have h256i : (l.length : Int) ≤ 256 := by omega
    clear hW hbA hin hs
    go_enter Try.func14, Try.ntmps14
    go_wp2_with fail
    generalize hg : w.heap.size = g at HPL
    have HG := hq hg
    clear hg
    generalize w.alloc (.cells #[.slice o l.length cap] 22) = w1 at *
    refine HPL.o.mono ?_
    rintro e w2 ⟨⟨v, ms, rfl, hma⟩, hb2⟩
    obtain ⟨gv, cv, rfl, hcv, hcm, hcell⟩ := hma.cell Nat.zero_lt_one
    have c0 := hcell 0 Nat.zero_lt_one
    have hmt := (hma.at_ 0 Nat.zero_lt_one).2
    have hlen := World.ownsMap.len hmt Try.underlying45
    have HB2 := hq (below_trans HB.o hb2)
    have hlen2 : ∀ ty, (Builtin.len_ #[45] ty #[.map (some (ms.getD 0 0))]).run Try.prog w2 = .ok (.int .i64 (size (mapD l) : Nat)) w2 := hlen
    have HON : Hq (onceB l = decide (size (mapD l) = l.length)) := hq (by unfold onceB; rw [decide_eq_true h256, Bool.true_and])
    simp only [List.length_singleton] at *
    clear hma hb2 hcell hmt hlen HPL HB
    generalize ms.getD 0 0 = mb at *
    generalize size (mapD l) = sz at *
    by_cases he : sz = l.length
    · subst he
      go_wp2_with fail
      go_ret
      exact ⟨by show Ending.returned (Value.bool true) = _; rw [HON.o]; simp, HB2.o⟩
    · have he1 : ((sz : Int) == (l.length : Int)) = false := beq_eq_false_iff_ne.2 (by omega)
      have he2 : (sz == l.length) = false := beq_eq_false_iff_ne.2 he
      have HE := hq he
      clear he
      go_wp2_with fail
      go_ret
      exact ⟨by show Ending.returned (Value.bool false) = _; rw [HON.o, decide_eq_false HE.o], HB2.o⟩
  · have h256i : ¬ (l.length : Int) ≤ 256 := by omega
    have HON : Hq (onceB l = false) := hq (by unfold onceB; rw [decide_eq_false h256]; rfl)
    unfold maxLen at hc
    clear hin hs
    go_enter Try.func14, Try.ntmps14
    go_wp2_with fail
    go_ret
    exact ⟨by show Ending.returned (Value.bool false) = _; rw [HON.o], Below.refl _ _⟩

set_option maxHeartbeats 1000000 in
set_option maxRecDepth 1000000 in
theorem oall_any (o : Option Addr) (cap : Nat) (rs : List SRow) (w : World) (hl : rs.length ≤ cap) (hc : cap ≤ maxLen) (hin : RowsIn w o rs) (hs : ∀ r ∈ rs, Shorts r.l) :
    Calls Try.prog 16 #[.slice o rs.length cap] w fun e w' => e = .returned (.bool (rs.all fun r => onceB r.l)) ∧ Below w.heap.size w w' := by
  have HIN := hq hin
  have HS := hq hs
  unfold maxLen at hc
  clear hin hs
  have HV : Hq ((rs.all fun r => onceB r.l) = (rs.drop 0).all fun r => onceB r.l) := hq rfl
  generalize (rs.all fun r => onceB r.l) = V at *
  go_enter Try.func16, Try.ntmps16
  go_wp2_with fail
  go_loopw [7] (fun i wr => ∃ k : Nat, k ≤ rs.length ∧ i = .int .i64 (k : Int) ∧ Hq (V = (rs.drop k).all fun r => onceB r.l) ∧ Hq (Below w.heap.size w wr)) (fun i _ => rs.length - (intOf i).toNat)
  case atStart => exact ⟨0, Nat.zero_le _, rfl, HV, hq (Below.refl _ _)⟩
  case round =>
    obtain ⟨k, hk, rfl, hv, hb⟩ := hrel
    clear HV
    by_cases h : k < rs.length
    · obtain ⟨⟨b, f, rfl, hcell⟩, hok⟩ := HIN.o k h
      have c0 : wr.cell? ⟨b, f + k, none⟩ = some rs[k].v := (hb.o.cell (cell_blk hcell)).trans hcell
      have hsx := HS.o rs[k] (List.getElem_mem h)
      have HDR : Hq (V = (onceB rs[k].l && (rs.drop (k + 1)).all fun r => onceB r.l)) := hq (by rw [hv.o, List.drop_eq_getElem_cons h]; rfl)
      generalize rs[k] = r at *
      obtain ⟨ro, rc, l⟩ := r
      unfold SRow.v at c0
      simp only at c0 HDR
      have hkz : (k : Int) < (rs.length : Int) := by omega
      have HON := hq (once_any ro rc l wr hok.le hok.cp (hok.rd.grow hb.o) hsx)
      clear hcell hok hsx hv
      generalize onceB l = V1 at *
      go_wp2_with fail
      refine HON.o.mono ?_
      rintro e w1 ⟨rfl, hb1⟩
      have HB1 := hq (below_trans hb.o hb1)
      clear HON hb hb1
      cases V1 with
      | false =>
        go_wp2_with fail
        go_ret
        exact ⟨by show Ending.returned (Value.bool false) = _; rw [HDR.o]; rfl, HB1.o⟩
      | true =>
        rw [Bool.true_and] at HDR
        go_wp2_with fail
        go_roundw
        case rel => exact ⟨k + 1, h, int_eq (by omega), HDR, HB1⟩
        case measure => simp [intOf]; omega
    · have h' : ¬ (k : Int) < (rs.length : Int) := by omega
      have HN : Hq (V = true) := hq (by rw [hv.o, List.drop_eq_nil_of_le (by omega)]; rfl)
      clear hv
      go_wp2_with fail
      go_ret
      exact ⟨by show Ending.returned (Value.bool true) = _; rw [HN.o], hb.o⟩

set_option maxHeartbeats 1000000 in
set_option maxRecDepth 1000000 in
theorem say_any (b : Nat) (l : List Bs) (x y : Bs) (w : World) (h : MapTo w b l.length l) (_hl : l.length ≤ 9223372036854775807) (hx : x.length ≤ maxLen) (hy : y.length ≤ maxLen) :
    Calls Try.prog 28 #[.map (some b), .string (st x), .string (st y)] w fun e w' => e = .returned (.int .i64 (sayM l x y)) ∧ w' = w := by
  have h1 := look_place h hx
  have h2 := look_place h hy
  have HSY : Hq (sayM l x y = match lastIx x l, lastIx y l with | some i, some j => if i < j then -1 else if j < i then 1 else 0 | _, _ => 0) := hq rfl
  clear h
  generalize sayM l x y = S at *
  go_enter Try.func28, Try.ntmps28
  cases ha : lastIx x l with
  | none =>
    rw [ha] at h1 HSY
    have HS2 : Hq (S = 0) := hq (by rw [HSY.o])
    clear HSY
    simp only [Option.getD_none, Option.isSome_none] at h1
    go_wp2_with fail
    all_goals
      go_ret
      exact ⟨by rw [HS2.o]; rfl, rfl⟩
  | some i =>
    cases hb : lastIx y l with
    | none =>
      rw [ha, hb] at HSY
      rw [ha] at h1
      rw [hb] at h2
      have HS2 : Hq (S = 0) := hq (by rw [HSY.o])
      clear HSY
      simp only [Option.getD_some, Option.isSome_some] at h1
      simp only [Option.getD_none, Option.isSome_none] at h2
      go_wp2_with fail
      go_ret
      exact ⟨by rw [HS2.o]; rfl, rfl⟩
    | some j =>
      rw [ha, hb] at HSY
      rw [ha] at h1
      rw [hb] at h2
      have HS2 : Hq (S = Lib.compareInt (i : Int) (j : Int)) := hq (by
        rw [HSY.o]
        unfold Lib.compareInt
        simp only
        repeat' split
        all_goals first | rfl | omega)
      clear HSY
      simp only [Option.getD_some, Option.isSome_some] at h1 h2
      have HC := hq (fun W => Try.cmp_Compare_int (i : Int) (j : Int) W)
      generalize Lib.compareInt (i : Int) (j : Int) = C at *
      go_wp2_with fail
      refine (HC.o _).mono ?_
      rintro e w' ⟨rfl, rfl⟩
      go_wp2_with fail
      go_ret
      exact ⟨by rw [HS2.o]; rfl, rfl⟩
end Go.Proofs.Ytccdmoogjcgcfaa
