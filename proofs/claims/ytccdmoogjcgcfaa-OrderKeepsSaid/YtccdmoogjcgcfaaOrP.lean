/-
  WALKS: order.places.
-/
import Derived.Test.YtccdmoogjcgcfaaOrM
import Derived.Test.YtccdmoogjcgcfaaStrA
import Derived.Test.YtccdmoogjcgcfaaRowMem
import Derived.Test.YtccdmoogjcgcfaaShelf
import Derived.Maps.OwnOps
import Derived.Maps.OwnSet
import Derived.Maps.AppendAt
namespace Go.Proofs.Ytccdmoogjcgcfaa
open Go.RowKit Go.WideMaps Go.Maps

theorem strKeyed : Keyed Try.prog 9 := string_keyed Try.underlying9
theorem zeroInt (w : World) : (zeroValue 3).run Try.prog w = .ok (.int .i64 0) w := by kernel_rfl
theorem infoMap : (Try.prog.info? 45).map (fun i => (i.zero, i.size, i.bytes)) = some (some (.map none), 1, 8) := by kernel_rfl
theorem key_st {x : Bs} (h : x.length ≤ maxLen) : keyOf Try.prog 9 (.string (st x)) = some (.string x) := by
  have := keyOf_string_mk Try.underlying9 (s := st x) (by rw [st_size]; exact h)
  rw [st_list] at this
  exact this
/-- a block is the map of the places of the first names -/
def MapTo (w : World) (b k : Nat) (l : List Bs) : Prop := w.ownsMap Try.prog 9 (plainElem (H := Unit) Try.prog 3) b k (mapTo l k)
theorem MapTo.lt {w : World} {b k : Nat} {l : List Bs} (h : MapTo w b k l) : b < w.heap.size := World.ownsMap.lt h
theorem MapTo.kept {w w' : World} {b k : Nat} {l : List Bs} {row : Option Nat} (h : MapTo w b k l) (hg : w.grownBy w' row) (hne : some b ≠ row) : MapTo w' b k l := World.ownsMap.kept h hg hne
theorem MapTo.grow {w w' : World} {b k : Nat} {l : List Bs} (h : MapTo w b k l) (hb : Below w.heap.size w w') : MapTo w' b k l :=
  h.kept (row := none) ⟨hb.os, hb.tape, hb.output, hb.size, fun j hj _ => hb.block j hj⟩ (by simp)
theorem MapTo.heap {w : World} {b k : Nat} {l : List Bs} (h : MapTo w b k l) : ∃ es c, w.heap[b]? = some (.map es c) := by
  obtain ⟨es, c, hb, _⟩ := h
  exact ⟨es, c, hb⟩
/-- a row of maps, the places of rows' names -/
structure MapsAt (B : Nat) (w : World) (v : Value) (ms : List Nat) (ls : List (List Bs)) : Prop where
  len : ms.length = ls.length
  row : w.ownsRow B 45 1 v ls.length (ms.map fun b => .map (some b))
  at_ : ∀ i (h : i < ls.length), B ≤ ms.getD i 0 ∧ MapTo w (ms.getD i 0) ls[i].length ls[i]
section
variable {B : Nat} {w w' : World} {v : Value} {ms : List Nat} {ls : List (List Bs)}
theorem MapsAt.nil (w : World) (B : Nat) : MapsAt B w (.slice none 0 0) [] [] := ⟨rfl, World.ownsRow_nil _ _ _ _, fun i h => absurd h (Nat.not_lt_zero i)⟩
theorem MapsAt.kept (h : MapsAt B w v ms ls) {g : Nat} (hg : w.grownBy w' (some g)) (hv : ∀ b, v.ownBlock = some b → b ≠ g) (hm : ∀ i, i < ls.length → ms.getD i 0 ≠ g) : MapsAt B w' v ms ls :=
  ⟨h.len, h.row.kept hg (by cases hq : v.ownBlock with | none => exact .inl rfl | some b => exact .inr (fun e => hv b hq (Option.some.inj e))), fun i hi => ⟨(h.at_ i hi).1, (h.at_ i hi).2.kept hg (fun e => hm i hi (Option.some.inj e))⟩⟩
theorem MapsAt.grow (h : MapsAt B w v ms ls) (hb : Below w.heap.size w w') : MapsAt B w' v ms ls :=
  ⟨h.len, h.row.kept (row := none) ⟨hb.os, hb.tape, hb.output, hb.size, fun j hj _ => hb.block j hj⟩ (by cases v.ownBlock <;> simp), fun i hi => ⟨(h.at_ i hi).1, (h.at_ i hi).2.grow hb⟩⟩
theorem MapsAt.ltv (h : MapsAt B w v ms ls) : ∀ b, v.ownBlock = some b → b < w.heap.size := fun b hb => (h.row.lt b hb).2
theorem MapsAt.ltm (h : MapsAt B w v ms ls) : ∀ i, i < ls.length → ms.getD i 0 < w.heap.size := fun i hi => (h.at_ i hi).2.lt
/-- one map more -/
theorem MapsAt.snoc (h : MapsAt B w v ms ls) {v' : Value} {g : Nat} {l : List Bs} (hB : B ≤ g) (hg : MapTo w g l.length l) (hr : w'.ownsRow B 45 1 v' (ls.length + 1) ((ms.map fun b => .map (some b)) ++ [.map (some g)])) (hw : w.grownBy w' v.ownBlock) : MapsAt B w' v' (ms ++ [g]) (ls ++ [l]) := by
  have key : ∀ b k q, MapTo w b k q → MapTo w' b k q := fun b k q hq => by
    refine hq.kept hw (fun e => ?_)
    obtain ⟨es, c, h1⟩ := hq.heap
    rcases h.row.2 with ⟨hv, _⟩ | ⟨g', cap, cur, hv, _, h2, _⟩
    · rw [hv] at e; cases e
    · rw [hv] at e
      have e2 : b = g' := Option.some.inj e
      rw [e2, h2] at h1
      cases h1
  refine ⟨by rw [List.length_append, List.length_append, h.len]; rfl, ?_, fun i hi => ?_⟩
  · rw [List.length_append, List.map_append]; exact hr
  · rw [List.length_append, List.length_singleton] at hi
    by_cases hk : i < ls.length
    · have e1 : (ms ++ [g]).getD i 0 = ms.getD i 0 := by simp [List.getD, List.getElem?_append_left (by rw [h.len]; exact hk)]
      have e2 : (ls ++ [l])[i] = ls[i] := List.getElem_append_left hk
      rw [e1, e2]
      exact ⟨(h.at_ i hk).1, key _ _ _ (h.at_ i hk).2⟩
    · have e0 : i = ls.length := by omega
      have e1 : (ms ++ [g]).getD i 0 = g := by simp [List.getD, e0, ← h.len]
      have e2 : (ls ++ [l])[i] = l := by simp [e0]
      rw [e1, e2]
      exact ⟨hB, key _ _ _ hg⟩
end
def PlacesPost (ls : List (List Bs)) (w : World) (e : Ending) (w' : World) : Prop := (∃ v ms, e = .returned v ∧ MapsAt w.heap.size w' v ms ls) ∧ Below w.heap.size w w'
theorem wf_i64 (k : Nat) (h : k ≤ 9223372036854775807) : (Lit.int .i64 (k : Int)).wf = true := by
  have h1 : IntKind.i64.min = -9223372036854775808 := by decide
  have h2 : IntKind.i64.max = 9223372036854775807 := by decide
  simp [Lit.wf, h1, h2]
  omega

set_option maxHeartbeats 4000000 in
set_option maxRecDepth 1000000 in
theorem places_any (o : Option Addr) (cap : Nat) (rs : List SRow) (w : World) (_hl : rs.length ≤ cap) (_hc : cap ≤ maxLen) (hb8 : rs.length * 8 ≤ 140737488351232) (hin : RowsIn w o rs) (hs : ∀ r ∈ rs, ∀ x ∈ r.l, x.length ≤ maxLen) :
    Calls Try.prog 18 #[.slice o rs.length cap] w (PlacesPost (rs.map SRow.l) w) := by
  obtain ⟨i0, hi, hz0, hz1, hz2⟩ := info_parts infoMap
  have hmm := @run_makeMap Try.prog
  have HIN := hq hin
  have HS := hq hs
  unfold maxLen at _hc
  clear hin hs
  have HP : Hq (∀ v ms w', MapsAt w.heap.size w' v ms (rs.map SRow.l) → Below w.heap.size w w' → PlacesPost (rs.map SRow.l) w (.returned v) w') := hq (fun v ms w' h1 h2 => ⟨⟨v, ms, rfl, h1⟩, h2⟩)
  generalize PlacesPost (rs.map SRow.l) w = PP at *
  go_enter Try.func18, Try.ntmps18
  go_wp2_with fail
  go_loopw [3, 11] (fun v i wr => ∃ (k : Nat) (ms : List Nat), k ≤ rs.length ∧ i = .int .i64 (k : Int) ∧ Hq (MapsAt w.heap.size wr v ms ((rs.take k).map SRow.l)) ∧ Hq (Below w.heap.size w wr)) (fun _ i _ => rs.length - (intOf i).toNat)
  case atStart => exact ⟨0, [], Nat.zero_le _, rfl, hq (MapsAt.nil _ _), hq (Below.refl _ _)⟩
  case round =>
    obtain ⟨k, ms, hk, rfl, hma, hb⟩ := hrel
    have htl : ((rs.take k).map SRow.l).length = k := by rw [List.length_map, List.length_take]; omega
    by_cases h : k < rs.length
    · obtain ⟨⟨b, f, rfl, hcell⟩, hok⟩ := HIN.o k h
      have c0 : wr.cell? ⟨b, f + k, none⟩ = some rs[k].v := (hb.o.cell (cell_blk hcell)).trans hcell
      have hsx := HS.o rs[k] (List.getElem_mem h)
      have HTK : Hq ((rs.take (k + 1)).map SRow.l = (rs.take k).map SRow.l ++ [rs[k].l]) := hq (by rw [List.take_succ_eq_append_getElem h, List.map_append]; rfl)
      generalize rs[k] = r at *
      obtain ⟨ro, rc, l⟩ := r
      have HOK := hq hok
      have HSX := hq hsx
      have hlc := hok.le
      have hcp := hok.cp
      unfold maxLen at hcp
      simp only at hlc hcp
      unfold SRow.v at c0
      simp only at c0
      have hkz : (k : Int) < (rs.length : Int) := by omega
      have HM0 : Hq (MapTo (wr.alloc (.map #[] 0)) wr.heap.size 0 l) := hq (World.ownsMap_made _ _ _ _)
      have HMA : Hq (MapsAt w.heap.size (wr.alloc (.map #[] 0)) _ ms ((rs.take k).map SRow.l)) := hq (hma.o.grow (below_alloc wr _))
      have HBA := hq (hb.o.alloc hb.o.size (.map #[] 0))
      have HV := hq hma.o.ltv
      have HM := hq hma.o.ltm
      have HGW := hq hb.o.size
      obtain ⟨vb, vn, vc, rfl⟩ := row_form hma.o.row
      clear hcell hok hsx hma hb
      go_wp2_with fail
      generalize hg : wr.heap.size = g at *
      generalize wr.alloc (.map #[] 0) = wa at *
      go_loopw [18] (fun j wz => ∃ q : Nat, q ≤ l.length ∧ j = .int .i64 (q : Int) ∧ Hq (MapTo wz g q l) ∧ Hq (MapsAt w.heap.size wz (.slice vb vn vc) ms ((rs.take k).map SRow.l)) ∧ Hq (Below w.heap.size w wz)) (fun j _ => l.length - (intOf j).toNat)
      case atStart => exact ⟨0, Nat.zero_le _, rfl, HM0, HMA, HBA⟩
      case round =>
        obtain ⟨q, hq1, rfl, hm, hma, hb⟩ := hrel
        clear HM0 HMA HBA hg c0
        by_cases hlt : q < l.length
        · obtain ⟨lb, lf, rfl, hlcell⟩ := HOK.o.rd q hlt
          simp only at hlcell
          have d0 : wr.cell? ⟨lb, lf + q, none⟩ = some (.string (st l[q])) := (hb.o.cell (cell_blk hlcell)).trans hlcell
          have hkey := key_st (HSX.o l[q] (List.getElem_mem hlt))
          have HST : Hq (mapTo l (q + 1) = (mapTo l q).put (.string l[q]) (.lit (.int .i64 q))) := hq (by
            have hg : l.getD q [] = l[q] := by simp [hlt]
            rw [mapTo, hg])
          have hwf := wf_i64 q (by omega)
          have hqz : (q : Int) < (l.length : Int) := by omega
          have hm0 : wr.ownsMap Try.prog 9 (plainElem (H := Unit) Try.prog 3) g q (mapTo l q) := hm.o
          generalize l[q] = x at *
          clear hlcell
          go_wp2_with (at_mapUpdate; refine wpList_mapUpdate_own _ rfl _ _ _ 45 rfl 9 3 strKeyed Try.underlying45 _ g q _ rfl hm0 (by unfold maxLen; omega) _ _ _ rfl rfl hkey _ [] (plainElem_int Try.underlying3 hwf) ?_)
          intro w1 hown1 hgrow1
          have HM1 : Hq (MapTo w1 g (q + 1) l) := hq (by unfold MapTo; rw [HST.o]; exact hown1)
          have HA1 := hq (hma.o.kept hgrow1 (fun b hb => by have := HV.o b hb; omega) (fun i hi => by have := HM.o i hi; omega))
          have HB1 := hq (hb.o.grown hgrow1 hb.o.size (fun j ej => by have := Option.some.inj ej; have := HGW.o; omega))
          clear hown1 hgrow1 hm0 hm hma hb HST
          go_wp2_with fail
          go_roundw
          case rel => exact ⟨q + 1, hlt, int_eq (by omega), HM1, HA1, HB1⟩
          case measure => simp [intOf]; omega
        · have hlt' : ¬ (q : Int) < (l.length : Int) := by omega
          obtain rfl : q = l.length := by omega
          have hr0 := hma.o.row
          rw [htl] at hr0
          have hbw := hb.o.size
          go_wp2_with (at_builtin; refine wpList_append_own_at _ rfl _ _ 34 rfl w.heap.size 45 i0 (.map none) 1 8 Try.underlying34 hi hz0 hz1 hz2 rfl (by decide) _ _ _ rfl (hr0.alloc _) ⟨wr.heap.size, 0, none⟩ 1 1 [.map (some g)] rfl rfl (cells_of_new _ [.map (some g)] _) (by simp [Value.oneCell']) (by unfold maxLen; omega) (by omega) (by rw [World.size_alloc]; omega) ?_)
          intro v' w4 hown4 hgrow4 _ _
          have hA := (hma.o.grow (below_alloc wr (.cells #[.map (some g)] 45))).snoc (g := g) (l := l) HGW.o (hm.o.grow (below_alloc wr _)) (by rw [htl]; exact hown4) hgrow4
          rw [← HTK.o] at hA
          have HA4 := hq hA
          have HB4 := hq ((hb.o.alloc hbw (.cells #[.map (some g)] 45)).grown hgrow4 (by rw [World.size_alloc]; omega) (fun j ej => (hr0.lt j ej).1))
          clear hown4 hgrow4 hA hm hma hb hr0
          go_wp2_with fail
          go_roundw
          case rel => exact ⟨k + 1, ms ++ [g], h, int_eq (by omega), HA4, HB4⟩
          case measure => simp [intOf]; omega
    · have h' : ¬ (k : Int) < (rs.length : Int) := by omega
      have hA := hma.o
      rw [List.take_of_length_le (by omega)] at hA
      have HA4 := hq hA
      clear hma hA
      go_wp2_with fail
      exact HP.o _ _ _ HA4.o hb.o
end Go.Proofs.Ytccdmoogjcgcfaa
