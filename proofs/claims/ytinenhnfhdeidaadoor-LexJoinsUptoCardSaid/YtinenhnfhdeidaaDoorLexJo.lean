/-
  THE WALK OF THE LAW LexJoins.
-/
import Derived.Test.YtinenhnfhdeidaaDoorLexJ
import Derived.Test.YtinenhnfhdeidaaDoorRLex
import Derived.Laws.OwnMore
import Derived.IntWalk
import Derived.Laws.AppendOwnNone
import Derived.Deep.RegionLaw
import Derived.BigRegion
import Derived.Deep.LoopGhost
namespace Go.Proofs.YtinenhnfhdeidaaDoor
open Go.RowKit

theorem tokCells_one (l : List Tok) : ∀ u ∈ tokCells l, u.oneCell' = true := by
  intro u hu
  obtain ⟨x, _, hx⟩ := List.mem_flatMap.1 hu
  simp only [List.mem_cons, List.not_mem_nil, or_false] at hx
  rcases hx with rfl | rfl | rfl <;> rfl
theorem row_keeps {w w' : World} {B : Nat} {v : Value} {l : List Tok} (h : w.ownsRow B 25 3 v l.length (tokCells l)) (hb : Below w.heap.size w w') : w'.ownsRow B 25 3 v l.length (tokCells l) :=
  h.kept (row := none) ⟨hb.os, hb.tape, hb.output, hb.size, fun k hk _ => hb.block k hk⟩ (Classical.em _)
theorem row_empty (w : World) : (w.alloc (.cells #[] 25)).ownsRow w.heap.size 25 3 (.slice (some ⟨w.heap.size, 0, none⟩) 0 0) 0 [] :=
  ⟨rfl, .inr ⟨w.heap.size, 0, #[], rfl, Nat.le_refl _, heap_alloc_new w _, Nat.le_refl _, Nat.zero_le _, rfl, rfl⟩⟩
/-- append to a row of the call's own, inside a region that draws -/
theorem step_row {ops : Array Oper} {o : Oper} {a : Act} {w : World} {K : Act → World → Prop} {Q : Exit → Act → World → Prop} {E : Prop} (hg : o.guard = none) (s x : Operand) (t : TypeId)
    (ho : o.op = .call { callee := .builtin .append, args := #[s, x], argTypes := #[t, t] })
    (base : Nat) (e : TypeId) (i : TypeInfo) (z : Value) (size bytes : Nat) (ht : Tryd.prog.underlying t = some (.slice e)) (hi : Tryd.prog.info? e = some i) (hz : i.zero = some z)
    (hsize : i.size = size) (hby : i.bytes = bytes) (hzs : z.cells.size = size) (hsz : 0 < size)
    (v : Value) (n : Nat) (xs : List Value) (hs : a.eval s = v) (hown : w.ownsRow base e size v n xs)
    (ad : Addr) (m c : Nat) (news : List Value) (hx : a.eval x = .slice (some ad) m c) (hl : news.length = m * size) (hnews : ∀ j u, news[j]? = some u → w.cell? (ad.add j) = some u) (h1 : ∀ u ∈ news, u.oneCell' = true)
    (h63 : n + m ≤ maxLen) (hbytes : (n + m) * bytes ≤ 140737488355328) (hbase : base ≤ w.heap.size)
    (h : ∀ v' w', w'.ownsRow base e size v' (n + m) (xs ++ news) → w.grownBy w' v.ownBlock → (v' = .slice none 0 0 ↔ v = .slice none 0 0 ∧ m = 0) → K (a.put o.dst v') w') :
    if Region.wanted o (yielded ops a.tmps) = true then Oper.wp Tryd.prog o a w K Q else E := by
  rw [if_pos (by simp [Region.wanted, hg])]
  exact wp_append_own w s x t ho base e i z size bytes ht hi hz hsize hby hzs hsz v n xs hs hown ad m c news hx hl hnews h1 h63 hbytes hbase h
set_option maxHeartbeats 4000000 in
set_option maxRecDepth 1000000 in
theorem ljoins_any (a b : ByteArray) (w : World) (hT : tabs w) (ha9 : a.size ≤ 1048576) (hb9 : b.size ≤ 1048576) :
    Calls Tryd.prog 7 #[.string a, .string b] w fun e w' => e = .returned (.bool true) ∧ Below w.heap.size w w' := by
  have HT := hq hT
  have ha : a.size ≤ maxLen := by unfold maxLen; omega
  have hb : b.size ≤ maxLen := by unfold maxLen; omega
  clear hT
  by_cases hbig : 2048 < a.size + b.size
  · have hbig' : (2048 : Int) < (a.size : Int) + (b.size : Int) := by omega
    clear hbig
    go_enter Tryd.func7, Tryd.ntmps7
    go_wp2_with fail
    refine (lsmall_any _ HT.o).mono ?_
    rintro e w1 ⟨rfl, hb1⟩
    go_wp2_with fail
    go_ret
    exact ⟨rfl, hb1⟩
  · have hbig' : ¬ (2048 : Int) < (a.size : Int) + (b.size : Int) := by omega
    have hcz := comma_size a b
    have HJ := hq (fun h => @tokensM_join a b h (by omega))
    have HA := hq (fun W (hW : tabs W) => tokens4_any a W hW ha)
    have HB := hq (fun W (hW : tabs W) => tokens4_any b W hW hb)
    have HC := hq (fun W (hW : tabs W) => tokens4_any (a ++ ⟨#[44]⟩ ++ b) W hW (by unfold maxLen; omega))
    have hla := (tokensM_len a).1
    have hlb := (tokensM_len b).1
    have hkb := (tokensM_len b).2
    have HMB : Hq (∀ x ∈ (tokensM b).1, x.2.1 < x.2.2 ∧ x.2.2 ≤ b.size) := hq (fun x hx => ⟨(tokensM_mem hx).1, (tokensM_mem hx).2.1⟩)
    have hz1 : a.size + 1 ≤ 4096 := by omega
    have hz2 : (a ++ ⟨#[44]⟩).size + b.size ≤ 4096 := by
      rw [ByteArray.size_append]
      show a.size + 1 + b.size ≤ 4096
      omega
    clear ha hb
    generalize tokensM (a ++ ⟨#[44]⟩ ++ b) = RC at *
    generalize tokensM a = RA at *
    generalize tokensM b = RB at *
    obtain ⟨la, na, ea⟩ := RA
    obtain ⟨lb, nb, eb⟩ := RB
    simp only at hla hlb hkb
    dsimp only at HJ HMB
    clear hcz hbig
    go_enter Tryd.func7, Tryd.ntmps7
    go_wp2_with fail
    refine (lsmall_any _ HT.o).mono ?_
    rintro e w1 ⟨rfl, hb1⟩
    have HT1 := hq (tabs_grow HT.o hb1)
    go_wp2_with fail
    refine (HA.o _ HT1.o).mono ?_
    rintro e w2 ⟨va, rfl, howa, hb2⟩
    have HT2 := hq (tabs_grow HT1.o hb2)
    go_wp2_with fail
    refine (HB.o _ HT2.o).mono ?_
    rintro e w3 ⟨vb, rfl, howb, hb3⟩
    have HT3 := hq (tabs_grow HT2.o hb3)
    go_wp2_with fail
    refine (HC.o _ HT3.o).mono ?_
    rintro e w4 ⟨vc, rfl, howc, hb4⟩
    have hb14 := below_trans (below_trans (below_trans hb1 hb2) hb3) hb4
    by_cases hea : ea = 0
    · have e1 : (ea != 0) = false := by rw [hea]; rfl
      have HR := hq (HJ.o hea)
      by_cases heb : eb = 0
      · have e2 : (eb != 0) = false := by rw [heb]; rfl
        have HR2 := hq (HR.o.trans (if_neg (fun h => h heb)))
        have HCR := howc
        rw [HR2.o] at HCR
        obtain ⟨cb, cc, rfl⟩ := toks_len howc
        obtain ⟨bb, bc, rfl⟩ := toks_len howb
        obtain ⟨i0, hi, hz0, hz1, hz2⟩ := info_parts infoTok
        have howa4 := row_keeps (row_keeps howa hb3) hb4
        have howb4 := row_keeps howb hb4
        have H0 := row_empty w4
        clear hea heb HJ HR HA HB HC howc howa howb hb1 hb2 hb3 hb4 HT HT1 HT2 HT3
        have HOA := hq howa4
        have HOB := hq howb4
        have HCR2 := hq HCR
        clear howb4 HCR
        rcases howa4.2 with ⟨rfl, hl0⟩ | ⟨ga, capa, cur, rfl, hga, _⟩
        · clear howa4
          go_upto_region 12 with (at_builtin; refine wpList_append_own_none rfl _ _ 27 rfl w4.heap.size 25 i0 3 Tryd.underlying27 hi hz1 _ 0 [] rfl H0 rfl ?_)
          have hlz : la = [] := List.eq_nil_of_length_eq_zero hl0
          have hown5 : (w4.alloc (.cells #[] 25)).ownsRow w4.heap.size 25 3 (.slice (some ⟨w4.heap.size, 0, none⟩) 0 0) la.length (tokCells la) := by rw [hlz]; exact H0
          have hB5 : Below w4.heap.size w4 (w4.alloc (.cells #[] 25)) := below_alloc _ _
          have hz5 : w4.heap.size ≤ (w4.alloc (.cells #[] 25)).heap.size := by rw [World.size_alloc]; omega
          generalize (w4.alloc (.cells #[] 25)) = w5 at *
          generalize (Value.slice (some ⟨w4.heap.size, 0, none⟩) 0 0) = v5 at *
          clear hlz hl0 H0
          go_wp2_with (at_builtin; refine wpList_append_own _ rfl _ _ 27 rfl w4.heap.size 25 i0 (.agg #[.int .i64 0, .int .i64 0, .int .i64 0]) 3 24 Tryd.underlying27 hi hz0 hz1 hz2 rfl (by decide) _ _ _ rfl (hown5.alloc _) ⟨w5.heap.size, 0, none⟩ 1 1 [.int .i64 6, .int .i64 (a.size : Int), .int .i64 ((a.size : Int) + 1)] rfl rfl (cells_of_new _ [.int .i64 6, .int .i64 (a.size : Int), .int .i64 ((a.size : Int) + 1)] _) (three_ints _ _ _) (by unfold maxLen; omega) (by omega) (by rw [World.size_alloc]; omega) ?_; intro v6 w6 hown6 hgrow6 _)
          have hB6 : Below w4.heap.size w4 w6 := (hB5.alloc hz5 (.cells #[.int .i64 6, .int .i64 (a.size : Int), .int .i64 ((a.size : Int) + 1)] 25)).grown hgrow6 (by rw [World.size_alloc]; omega) (fun j ej => (hown5.lt j ej).1)
          have HO6 := hq hown6
          clear hown6 hgrow6 hown5 hB5 hz5
          go_loopw [15, 16] (fun v i wr => ∃ j : Nat, j ≤ lb.length ∧ i = .int .i64 (j : Int) ∧ Hq (wr.ownsRow w4.heap.size 25 3 v (la.length + 1 + j) (tokCells (la ++ (6, a.size, a.size + 1) :: (lb.take j).map (shiftT (a.size + 1))))) ∧ Below w4.heap.size w4 wr) (fun _ i _ => lb.length - (intOf i).toNat)
          case atStart =>
            refine ⟨0, Nat.zero_le _, rfl, hq ?_, hB6⟩
            have e : tokCells (la ++ (6, a.size, a.size + 1) :: (lb.take 0).map (shiftT (a.size + 1))) = tokCells la ++ [.int .i64 6, .int .i64 (a.size : Int), .int .i64 ((a.size : Int) + 1)] := by
              rw [List.take_zero, List.map_nil, tokCells_snoc]; rfl
            rw [e]
            exact HO6.o
          case round =>
            obtain ⟨j, hj, rfl, hrow, hbr⟩ := hrel
            clear HO6 hB6
            have hbs := hbr.size
            by_cases hjl : j < lb.length
            · obtain ⟨gb, capb, hv, _, hg2, hcapb, hcmb, _, hcell⟩ := toks_cell HOB.o (by omega)
              cases hv
              have hx : lb[j]? = some lb[j] := List.getElem?_eq_getElem hjl
              obtain ⟨c1, c2, c3⟩ := hcell j _ hx
              obtain ⟨m1, m2⟩ := HMB.o _ (List.getElem_mem hjl)
              have HTK : Hq ((lb.take (j + 1)).map (shiftT (a.size + 1)) = (lb.take j).map (shiftT (a.size + 1)) ++ [shiftT (a.size + 1) lb[j]]) := hq (by rw [List.take_succ_eq_append_getElem hjl, List.map_append]; rfl)
              unfold maxLen at hcmb
              clear hcell hx
              generalize lb[j] = x at *
              obtain ⟨kd, fr, t2⟩ := x
              simp only at c1 c2 c3 m1 m2
              have d1 := (hbr.cell (p := ⟨gb, j * 3, none⟩) hg2).trans c1
              have d2 := (hbr.cell (p := ⟨gb, j * 3 + 1, none⟩) hg2).trans c2
              have d3 := (hbr.cell (p := ⟨gb, j * 3 + 2, none⟩) hg2).trans c3
              have H63 : Hq (la.length + 1 + j + 1 ≤ maxLen) := hq (by unfold maxLen; omega)
              have HBY : Hq ((la.length + 1 + j + 1) * 24 ≤ 140737488355328) := hq (by omega)
              have HSZ : Hq (∀ o : Obj, w4.heap.size ≤ (wr.alloc o).drew.heap.size) := hq (fun o => Nat.le_trans hbs (by show wr.heap.size ≤ (wr.alloc o).heap.size; rw [World.size_alloc]; omega))
              have HDR : Hq (∀ o : Obj, Below w4.heap.size w4 (wr.alloc o).drew) := hq (fun o => (hbr.alloc hbs o).drew)
              have HOT := hq (fun k hk => (hrow.o.lt k hk).1)
              have q1 : IntKind.i64.wrap ((fr : Int) + (a.size : Int)) = (fr : Int) + (a.size : Int) := IntWalk.i64_in _ (by omega)
              have q2 : IntKind.i64.wrap ((fr : Int) + (a.size : Int) + 1) = (fr : Int) + (a.size : Int) + 1 := IntWalk.i64_in _ (by omega)
              have q3 : IntKind.i64.wrap ((t2 : Int) + (a.size : Int)) = (t2 : Int) + (a.size : Int) := IntWalk.i64_in _ (by omega)
              have q4 : IntKind.i64.wrap ((t2 : Int) + (a.size : Int) + 1) = (t2 : Int) + (a.size : Int) + 1 := IntWalk.i64_in _ (by omega)
              clear c1 c2 c3 m1 m2
              go_upto_region 16 with fail
              go_region_law (refine step_row rfl (.tmp 85) (.tmp 113) 27 rfl w4.heap.size 25 i0 (.agg #[.int .i64 0, .int .i64 0, .int .i64 0]) 3 24 Tryd.underlying27 hi hz0 hz1 hz2 rfl (by decide) _ _ _ (by simp [Act.eval]) (hrow.o.alloc (.cells #[.int .i64 (kd : Int), .int .i64 ((fr : Int) + (a.size : Int) + 1), .int .i64 ((t2 : Int) + (a.size : Int) + 1)] 25)) ⟨wr.heap.size, 0, none⟩ 1 1 [.int .i64 (kd : Int), .int .i64 ((fr : Int) + (a.size : Int) + 1), .int .i64 ((t2 : Int) + (a.size : Int) + 1)] (by simp [Act.eval]) rfl (cells_of_new wr [.int .i64 (kd : Int), .int .i64 ((fr : Int) + (a.size : Int) + 1), .int .i64 ((t2 : Int) + (a.size : Int) + 1)] _) (three_ints _ _ _) H63.o HBY.o (HSZ.o _) ?_; intro v' w7 hown7 hgrow7 _; have HOW := hq hown7; have HB7 := hq (Below.grown (HDR.o _) hgrow7 (HSZ.o _) HOT.o); clear hown7 hgrow7)
              all_goals
                go_wp2_with fail
                go_roundw
                case rel =>
                  refine ⟨j + 1, by omega, int_eq (by omega), hq ?_, HB7.o⟩
                  have e : tokCells (la ++ (6, a.size, a.size + 1) :: (lb.take (j + 1)).map (shiftT (a.size + 1))) = tokCells (la ++ (6, a.size, a.size + 1) :: (lb.take j).map (shiftT (a.size + 1))) ++ [.int .i64 (kd : Int), .int .i64 ((fr : Int) + (a.size : Int) + 1), .int .i64 ((t2 : Int) + (a.size : Int) + 1)] := by
                    rw [HTK.o, ← List.cons_append, ← List.append_assoc, shift_cells]
                  rw [e]
                  exact HOW.o
                case measure => simp [intOf]; omega
            · obtain rfl : j = lb.length := by omega
              have hrow2 := hrow.o
              rw [List.take_length] at hrow2
              have e3 : (RC.snd.snd == 0) = true := by rw [HR2.o]; rfl
              have hc := row_keeps HCR2.o hbr
              have el : (la ++ (6, a.size, a.size + 1) :: lb.map (shiftT (a.size + 1))).length = la.length + 1 + lb.length := by simp; omega
              have hrow3 := hrow2
              rw [← el] at hrow3
              have HS := hq (same4_any _ _ _ wr ⟨_, hc⟩ ⟨_, hrow3⟩ (by simp; omega))
              have hb9 := hb14.trans (hbr.mono hb14.size)
              clear hrow2 hc hrow3 hrow HCR2 HOA HOB HMB HR2
              go_wp2_with fail
              refine HS.o.mono ?_
              rintro e w8 ⟨rfl, hb8⟩
              have hb10 := below_trans hb9 hb8
              clear HS hb8
              go_wp2_with fail
              go_ret
              exact ⟨rfl, hb10⟩
        · have hcl := (howa4.alloc (.cells #[] 25)).cells (g := ga) rfl
          have HCL := hq hcl
          clear howa4 hcl
          go_upto_region 12 with (at_builtin; refine wpList_append_own _ rfl _ _ 27 rfl w4.heap.size 25 i0 (.agg #[.int .i64 0, .int .i64 0, .int .i64 0]) 3 24 Tryd.underlying27 hi hz0 hz1 hz2 rfl (by decide) _ _ _ rfl H0 ⟨ga, 0, none⟩ la.length capa (tokCells la) rfl (tokCells_len la) HCL.o (tokCells_one la) (by unfold maxLen; omega) (by omega) (by rw [World.size_alloc]; omega) ?_; intro v5 w5 hown5 hgrow5 _)
          have hB5 : Below w4.heap.size w4 w5 := (below_alloc w4 (.cells #[] 25)).grown hgrow5 (by rw [World.size_alloc]; omega) (fun j ej => by cases ej; exact Nat.le_refl _)
          have hz5 : w4.heap.size ≤ w5.heap.size := hB5.size
          rw [Nat.zero_add, List.nil_append] at hown5
          clear hgrow5 H0 HCL
          go_wp2_with (at_builtin; refine wpList_append_own _ rfl _ _ 27 rfl w4.heap.size 25 i0 (.agg #[.int .i64 0, .int .i64 0, .int .i64 0]) 3 24 Tryd.underlying27 hi hz0 hz1 hz2 rfl (by decide) _ _ _ rfl (hown5.alloc _) ⟨w5.heap.size, 0, none⟩ 1 1 [.int .i64 6, .int .i64 (a.size : Int), .int .i64 ((a.size : Int) + 1)] rfl rfl (cells_of_new _ [.int .i64 6, .int .i64 (a.size : Int), .int .i64 ((a.size : Int) + 1)] _) (three_ints _ _ _) (by unfold maxLen; omega) (by omega) (by rw [World.size_alloc]; omega) ?_; intro v6 w6 hown6 hgrow6 _)
          have hB6 : Below w4.heap.size w4 w6 := (hB5.alloc hz5 (.cells #[.int .i64 6, .int .i64 (a.size : Int), .int .i64 ((a.size : Int) + 1)] 25)).grown hgrow6 (by rw [World.size_alloc]; omega) (fun j ej => (hown5.lt j ej).1)
          have HO6 := hq hown6
          clear hown6 hgrow6 hown5 hB5 hz5
          go_loopw [15, 16] (fun v i wr => ∃ j : Nat, j ≤ lb.length ∧ i = .int .i64 (j : Int) ∧ Hq (wr.ownsRow w4.heap.size 25 3 v (la.length + 1 + j) (tokCells (la ++ (6, a.size, a.size + 1) :: (lb.take j).map (shiftT (a.size + 1))))) ∧ Below w4.heap.size w4 wr) (fun _ i _ => lb.length - (intOf i).toNat)
          case atStart =>
            refine ⟨0, Nat.zero_le _, rfl, hq ?_, hB6⟩
            have e : tokCells (la ++ (6, a.size, a.size + 1) :: (lb.take 0).map (shiftT (a.size + 1))) = tokCells la ++ [.int .i64 6, .int .i64 (a.size : Int), .int .i64 ((a.size : Int) + 1)] := by
              rw [List.take_zero, List.map_nil, tokCells_snoc]; rfl
            rw [e]
            exact HO6.o
          case round =>
            obtain ⟨j, hj, rfl, hrow, hbr⟩ := hrel
            clear HO6 hB6
            have hbs := hbr.size
            by_cases hjl : j < lb.length
            · obtain ⟨gb, capb, hv, _, hg2, hcapb, hcmb, _, hcell⟩ := toks_cell HOB.o (by omega)
              cases hv
              have hx : lb[j]? = some lb[j] := List.getElem?_eq_getElem hjl
              obtain ⟨c1, c2, c3⟩ := hcell j _ hx
              obtain ⟨m1, m2⟩ := HMB.o _ (List.getElem_mem hjl)
              have HTK : Hq ((lb.take (j + 1)).map (shiftT (a.size + 1)) = (lb.take j).map (shiftT (a.size + 1)) ++ [shiftT (a.size + 1) lb[j]]) := hq (by rw [List.take_succ_eq_append_getElem hjl, List.map_append]; rfl)
              unfold maxLen at hcmb
              clear hcell hx
              generalize lb[j] = x at *
              obtain ⟨kd, fr, t2⟩ := x
              simp only at c1 c2 c3 m1 m2
              have d1 := (hbr.cell (p := ⟨gb, j * 3, none⟩) hg2).trans c1
              have d2 := (hbr.cell (p := ⟨gb, j * 3 + 1, none⟩) hg2).trans c2
              have d3 := (hbr.cell (p := ⟨gb, j * 3 + 2, none⟩) hg2).trans c3
              have H63 : Hq (la.length + 1 + j + 1 ≤ maxLen) := hq (by unfold maxLen; omega)
              have HBY : Hq ((la.length + 1 + j + 1) * 24 ≤ 140737488355328) := hq (by omega)
              have HSZ : Hq (∀ o : Obj, w4.heap.size ≤ (wr.alloc o).drew.heap.size) := hq (fun o => Nat.le_trans hbs (by show wr.heap.size ≤ (wr.alloc o).heap.size; rw [World.size_alloc]; omega))
              have HDR : Hq (∀ o : Obj, Below w4.heap.size w4 (wr.alloc o).drew) := hq (fun o => (hbr.alloc hbs o).drew)
              have HOT := hq (fun k hk => (hrow.o.lt k hk).1)
              have q1 : IntKind.i64.wrap ((fr : Int) + (a.size : Int)) = (fr : Int) + (a.size : Int) := IntWalk.i64_in _ (by omega)
              have q2 : IntKind.i64.wrap ((fr : Int) + (a.size : Int) + 1) = (fr : Int) + (a.size : Int) + 1 := IntWalk.i64_in _ (by omega)
              have q3 : IntKind.i64.wrap ((t2 : Int) + (a.size : Int)) = (t2 : Int) + (a.size : Int) := IntWalk.i64_in _ (by omega)
              have q4 : IntKind.i64.wrap ((t2 : Int) + (a.size : Int) + 1) = (t2 : Int) + (a.size : Int) + 1 := IntWalk.i64_in _ (by omega)
              clear c1 c2 c3 m1 m2
              go_upto_region 16 with fail
              go_region_law (refine step_row rfl (.tmp 85) (.tmp 113) 27 rfl w4.heap.size 25 i0 (.agg #[.int .i64 0, .int .i64 0, .int .i64 0]) 3 24 Tryd.underlying27 hi hz0 hz1 hz2 rfl (by decide) _ _ _ (by simp [Act.eval]) (hrow.o.alloc (.cells #[.int .i64 (kd : Int), .int .i64 ((fr : Int) + (a.size : Int) + 1), .int .i64 ((t2 : Int) + (a.size : Int) + 1)] 25)) ⟨wr.heap.size, 0, none⟩ 1 1 [.int .i64 (kd : Int), .int .i64 ((fr : Int) + (a.size : Int) + 1), .int .i64 ((t2 : Int) + (a.size : Int) + 1)] (by simp [Act.eval]) rfl (cells_of_new wr [.int .i64 (kd : Int), .int .i64 ((fr : Int) + (a.size : Int) + 1), .int .i64 ((t2 : Int) + (a.size : Int) + 1)] _) (three_ints _ _ _) H63.o HBY.o (HSZ.o _) ?_; intro v' w7 hown7 hgrow7 _; have HOW := hq hown7; have HB7 := hq (Below.grown (HDR.o _) hgrow7 (HSZ.o _) HOT.o); clear hown7 hgrow7)
              all_goals
                go_wp2_with fail
                go_roundw
                case rel =>
                  refine ⟨j + 1, by omega, int_eq (by omega), hq ?_, HB7.o⟩
                  have e : tokCells (la ++ (6, a.size, a.size + 1) :: (lb.take (j + 1)).map (shiftT (a.size + 1))) = tokCells (la ++ (6, a.size, a.size + 1) :: (lb.take j).map (shiftT (a.size + 1))) ++ [.int .i64 (kd : Int), .int .i64 ((fr : Int) + (a.size : Int) + 1), .int .i64 ((t2 : Int) + (a.size : Int) + 1)] := by
                    rw [HTK.o, ← List.cons_append, ← List.append_assoc, shift_cells]
                  rw [e]
                  exact HOW.o
                case measure => simp [intOf]; omega
            · obtain rfl : j = lb.length := by omega
              have hrow2 := hrow.o
              rw [List.take_length] at hrow2
              have e3 : (RC.snd.snd == 0) = true := by rw [HR2.o]; rfl
              have hc := row_keeps HCR2.o hbr
              have el : (la ++ (6, a.size, a.size + 1) :: lb.map (shiftT (a.size + 1))).length = la.length + 1 + lb.length := by simp; omega
              have hrow3 := hrow2
              rw [← el] at hrow3
              have HS := hq (same4_any _ _ _ wr ⟨_, hc⟩ ⟨_, hrow3⟩ (by simp; omega))
              have hb9 := hb14.trans (hbr.mono hb14.size)
              clear hrow2 hc hrow3 hrow HCR2 HOA HOB HMB HR2
              go_wp2_with fail
              refine HS.o.mono ?_
              rintro e w8 ⟨rfl, hb8⟩
              have hb10 := below_trans hb9 hb8
              clear HS hb8
              go_wp2_with fail
              go_ret
              exact ⟨rfl, hb10⟩
      · have e2 : (eb != 0) = true := bne_iff_ne.2 heb
        have HR2 := hq (HR.o.trans (if_pos heb))
        have e4 : (eb == eb) = true := beq_self_eq_true _
        have e5 : (((a.size + 1 + nb : Nat) : Int) == (a.size : Int) + 1 + (nb : Int)) = true := beq_iff_eq.2 (by omega)
        clear hea heb HJ HR HA HB HC howa howb howc
        rw [HR2.o]
        go_wp2_with fail
        go_ret
        exact ⟨rfl, hb14⟩
    · have e1 : (ea != 0) = true := bne_iff_ne.2 hea
      clear hea HJ HA HB HC howa howb howc
      go_wp2_with fail
      go_ret
      exact ⟨rfl, hb14⟩
end Go.Proofs.YtinenhnfhdeidaaDoor
