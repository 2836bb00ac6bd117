/-
  WALKS: mark.parts.
-/
import Derived.Test.YtekihjffefokjaaDoorMkW
import Derived.Test.YtekihjffefokjaaDoorRowMem
namespace Go.Proofs.YtekihjffefokjaaDoor
open Go.RowKit

def partCells (l : List MPart) : List Value := l.flatMap fun x => [.bool x.hunk, .string (st x.text), .string (st x.s0), .string (st x.s1), .string (st x.s2)]
theorem partCells_snoc (l : List MPart) (x : MPart) : partCells (l ++ [x]) = partCells l ++ [.bool x.hunk, .string (st x.text), .string (st x.s0), .string (st x.s1), .string (st x.s2)] := by simp [partCells]
theorem infoPart : (Tryd.prog.info? 53).map (fun i => (i.zero, i.size, i.bytes)) = some (some (.agg #[.bool false, .string ⟨#[]⟩, .string ⟨#[]⟩, .string ⟨#[]⟩, .string ⟨#[]⟩]), 5, 72) := by kernel_rfl
theorem part_one (h : Bool) (a b c d : ByteArray) : ∀ u ∈ [Value.bool h, .string a, .string b, .string c, .string d], u.oneCell' = true := by
  intro u hu
  simp only [List.mem_cons, List.not_mem_nil, or_false] at hu
  rcases hu with rfl | rfl | rfl | rfl | rfl <;> rfl
/-- the row that the call has made -/
def PRow (w : World) (B : Nat) (v : Value) (l : List MPart) : Prop := w.ownsRow B 53 5 v l.length (partCells l)
def PartsPost (r : Option (List MPart)) (w : World) (e : Ending) (w' : World) : Prop :=
  (match r with
  | none => e = .returned (.tuple #[.slice none 0 0, .bool false])
  | some l => ∃ v, e = .returned (.tuple #[v, .bool true]) ∧ PRow w' w.heap.size v l) ∧ Below w.heap.size w w'
/-- how it goes on within a hunk -/
def mkz (n f : Nat) (acc : List MPart) (z : Int) (b0 b1 b2 rs : Bs) : Option (List MPart) :=
  if z = 3 then (partsM n f rs).map fun l => acc ++ (⟨true, [], b0, b1, b2⟩ :: l)
  else if z = 2 then (match cutL (mrk 62 n) rs with | none => none | some (b2, r3) => (partsM n f r3).map fun l => acc ++ (⟨true, [], b0, b1, b2⟩ :: l))
  else if z = 1 then (match cutL (mrk 61 n) rs with | none => none | some (b0, r2) => match cutL (mrk 62 n) r2 with | none => none | some (b2, r3) => (partsM n f r3).map fun l => acc ++ (⟨true, [], b0, b1, b2⟩ :: l))
  else (match cutL (mrk 124 n) rs with | none => none | some (b1, r1) => match cutL (mrk 61 n) r1 with | none => none | some (b0, r2) => match cutL (mrk 62 n) r2 with | none => none | some (b2, r3) => (partsM n f r3).map fun l => acc ++ (⟨true, [], b0, b1, b2⟩ :: l))
section
variable {n f : Nat} {acc : List MPart} {b0 b1 b2 rs u v : Bs}
theorem mkz_no {z : Int} {c : UInt8} (hz : z = 0 ∧ c = 124 ∨ z = 1 ∧ c = 61 ∨ z = 2 ∧ c = 62) (h : cutL (mrk c n) rs = none) : mkz n f acc z b0 b1 b2 rs = none := by
  rcases hz with ⟨rfl, rfl⟩ | ⟨rfl, rfl⟩ | ⟨rfl, rfl⟩
  all_goals
    unfold mkz
    simp only [h]
    rfl
theorem mkz_0 (h : cutL (mrk 124 n) rs = some (u, v)) : mkz n f acc 0 b0 b1 b2 rs = mkz n f acc 1 b0 u b2 v := by
  unfold mkz
  simp only [h]
  rfl
theorem mkz_1 (h : cutL (mrk 61 n) rs = some (u, v)) : mkz n f acc 1 b0 b1 b2 rs = mkz n f acc 2 u b1 b2 v := by
  unfold mkz
  simp only [h]
  rfl
theorem mkz_2 (h : cutL (mrk 62 n) rs = some (u, v)) : mkz n f acc 2 b0 b1 b2 rs = mkz n f acc 3 b0 b1 u v := by
  unfold mkz
  simp only [h]
  rfl
theorem mkz_3 : mkz n f acc 3 b0 b1 b2 rs = (partsM n f rs).map fun l => (acc ++ [⟨true, [], b0, b1, b2⟩]) ++ l := by
  unfold mkz
  rw [if_pos rfl]
  congr 1
  funext l
  rw [List.append_assoc]; rfl
theorem parts_hunk {s t r : Bs} (hs : s ≠ []) (h : cutL (mrk 60 n) s = some (t, r)) : ((partsM n (f + 1) s).map fun l => acc ++ l) = mkz n f (acc ++ if t = [] then [] else [txt t]) 0 [] [] [] r := by
  rw [partsM, if_neg hs]
  simp only [h]
  unfold mkz
  rw [if_neg (show ¬ (0 : Int) = 3 by decide), if_neg (show ¬ (0 : Int) = 2 by decide), if_neg (show ¬ (0 : Int) = 1 by decide)]
  cases cutL (mrk 124 n) r with
  | none => rfl
  | some x =>
    obtain ⟨b1, r1⟩ := x
    simp only
    cases cutL (mrk 61 n) r1 with
    | none => rfl
    | some y =>
      obtain ⟨b0, r2⟩ := y
      simp only
      cases cutL (mrk 62 n) r2 with
      | none => rfl
      | some q =>
        obtain ⟨b2, r3⟩ := q
        simp only
        rw [Option.map_map]
        congr 1
        funext l
        show acc ++ ((if t = [] then [] else [txt t]) ++ _) = _
        rw [List.append_assoc]
theorem parts_last {s : Bs} (hs : s ≠ []) (h : cutL (mrk 60 n) s = none) : ((partsM n (f + 1) s).map fun l => acc ++ l) = some (acc ++ [txt s]) := by
  rw [partsM, if_neg hs]
  simp only [h]
  rfl
end
def strN : Value → Nat
  | .string s => s.size
  | _ => 0
theorem below_set {B : Nat} {a w : World} (h : Below B a w) {g i : Nat} (hg : B ≤ g) (u : Value) : Below B a (w.setCell ⟨g, i, none⟩ u) := h.setCell (by simp only; exact hg) u
theorem set_size (w : World) (p : Addr) (u : Value) : (w.setCell p u).heap.size = w.heap.size := by simp [World.setCell]
theorem PRow.grow {w w' : World} {B : Nat} {v : Value} {l : List MPart} (h : PRow w B v l) (hb : Below w.heap.size w w') : PRow w' B v l := h.kept (row := none) ⟨hb.os, hb.tape, hb.output, hb.size, fun k hk _ => hb.block k hk⟩ (Classical.em _)
theorem PRow.set {w : World} {B g i : Nat} {v : Value} {l : List MPart} (h : PRow w B v l) (hg : ∀ j, v.ownBlock = some j → j ≠ g) (u : Value) : PRow (w.setCell ⟨g, i, none⟩ u) B v l :=
  h.kept (row := some g) ⟨rfl, rfl, rfl, by rw [set_size]; exact Nat.le_refl _, fun k _ hne => Below.heap_setCell w ⟨g, i, none⟩ u k (fun e => hne (by rw [e]))⟩ (.inr (fun e => hg g e rfl))

set_option maxHeartbeats 4000000 in
set_option maxRecDepth 1000000 in
theorem parts_any (s : Bs) (n : Nat) (w : World) (hm : mx w) (hs : s.length ≤ 1073741824) (hn : n ≤ 4294967280) :
    Calls Tryd.prog 65 #[.string (st s), .int .i64 (n : Int)] w (PartsPost (partsM n (s.length + 1) s) w) := by
  obtain ⟨i0, hi, hz0, hz1, hz2⟩ := info_parts infoPart
  have HM := hq hm
  have hml := mx_lt hm
  have HR : Hq (partsM n (s.length + 1) s = (partsM n (s.length + 1) s).map fun l => [] ++ l) := hq (by cases partsM n (s.length + 1) s <;> rfl)
  generalize hRR : partsM n (s.length + 1) s = R at *
  have HR0 : Hq (R = (partsM n (s.length + 1) s).map fun l => [] ++ l) := hq (by rw [hRR]; exact HR.o)
  clear hm HR hRR
  have HMK := hq (fun (z : Int) (hz : z = 0 ∨ z = 1 ∨ z = 2 ∨ z = 3) W => mark_any z n hz (by omega) W)
  go_enter Tryd.func65, Tryd.ntmps65
  go_wp2_with fail
  go_loopw [0, 6] (fun bd v wr => ∃ (r : Bs) (acc : List MPart) (f : Nat), bd = .string (st r) ∧ Hq (PRow wr w.heap.size v acc) ∧ Hq (Below w.heap.size w wr) ∧ Hq (R = (partsM n f r).map fun l => acc ++ l) ∧ r.length < f ∧ r.length ≤ s.length ∧ acc.length + r.length ≤ s.length) (fun bd _ _ => strN bd)
  case atStart => exact ⟨s, [], s.length + 1, rfl, hq (World.ownsRow_nil _ _ _ _), hq (Below.refl _ _), HR0, Nat.lt_succ_self _, Nat.le_refl _, by simp⟩
  case round =>
    obtain ⟨r, acc, f, rfl, hrow, hb, hR, hf, hrs, hal⟩ := hrel
    clear HR0
    obtain ⟨f, rfl⟩ : ∃ g, f = g + 1 := ⟨f - 1, by omega⟩
    obtain ⟨vb, vn, vc, rfl⟩ := row_form hrow.o
    by_cases hr0 : r = []
    · subst hr0
      have HN : Hq (R = some acc) := hq (by rw [hR.o, partsM, if_pos rfl]; show some (acc ++ []) = _; rw [List.append_nil])
      clear hR hf
      go_wp2_with fail
      go_ret2
      exact ⟨by rw [HN.o]; exact ⟨_, rfl, hrow.o⟩, hb.o⟩
    · have e0 : r.isEmpty = false := by cases r with | nil => exact absurd rfl hr0 | cons _ _ => rfl
      have hrl : 1 ≤ r.length := by cases r with | nil => exact absurd rfl hr0 | cons _ _ => simp
      have HM0 := hq (fun W => HMK.o 0 (by omega) W)
      have HMX := hq (fun W (hW : Below w.heap.size w W) => mx_below HM.o hW hml)
      have hbw := hb.o.size
      have hsg : sgnOf 0 = 60 := rfl
      rw [hsg] at HM0
      clear hsg
      cases hc : cutL (mrk 60 n) r with
      | none =>
        have HN : Hq (R = some (acc ++ [txt r])) := hq (by rw [hR.o, parts_last hr0 hc])
        have HCU := hq (fun W (hW : Below w.heap.size w W) => cut_no_any r (mrk 60 n) W (HMX.o W hW) (by omega) (mrk_ne _ _) hc)
        clear hR hc hr0 HMK
        go_wp2_with fail
        refine (HM0.o _).mono ?_
        rintro e w2 ⟨rfl, hb2⟩
        have HB2 := hq (below_trans hb.o hb2)
        have HRW := hq (hrow.o.grow hb2)
        clear hb2 hrow hb HM0
        go_wp2_with fail
        refine (HCU.o _ HB2.o).mono ?_
        rintro e w' ⟨rfl, kk, rfl⟩
        have HB3 := hq (below_drawn HB2.o kk)
        have HRW3 := hq (show PRow (w2.drewN kk) w.heap.size (.slice vb vn vc) acc from HRW.o.grow (below_drawn (Below.refl _ _) kk))
        have hws : w.heap.size ≤ (w2.drewN kk).heap.size := HB3.o.size
        clear HCU HRW HB2
        generalize w2.drewN kk = w3 at *
        go_wp2_with (at_builtin; refine wpList_append_own _ rfl _ _ 41 rfl w.heap.size 53 i0 (.agg #[.bool false, .string ⟨#[]⟩, .string ⟨#[]⟩, .string ⟨#[]⟩, .string ⟨#[]⟩]) 5 72 Tryd.underlying41 hi hz0 hz1 hz2 rfl (by decide) _ _ _ rfl (HRW3.o.alloc _) ⟨w3.heap.size, 0, none⟩ 1 1 [.bool false, .string (st r), .string (st []), .string (st []), .string (st [])] rfl rfl (cells_of_new _ [.bool false, .string (st r), .string (st []), .string (st []), .string (st [])] _) (part_one _ _ _ _ _) (by unfold maxLen; omega) (by omega) (by rw [World.size_alloc]; omega) ?_)
        intro v' w4 hown4 hgrow4 _
        have hb4 := (HB3.o.alloc hws (.cells #[.bool false, .string (st r), .string (st []), .string (st []), .string (st [])] 53)).grown hgrow4 (by rw [World.size_alloc]; omega) (fun j ej => (HRW3.o.lt j ej).1)
        go_wp2_with fail
        go_ret2
        refine ⟨?_, hb4⟩
        rw [HN.o]
        exact ⟨_, rfl, by unfold PRow; rw [partCells_snoc, List.length_append]; exact hown4⟩
      | some x =>
        obtain ⟨t, r'⟩ := x
        have hcl := cutL_len hc
        rw [mrk_len] at hcl
        have HRZ := hq (hR.o.trans (parts_hunk hr0 hc))
        have HCU := hq (fun W (hW : Below w.heap.size w W) => cut_yes_any r (mrk 60 n) t r' W (HMX.o W hW) (by omega) (mrk_ne _ _) hc)
        have hal2 : (acc ++ if t = [] then [] else [txt t]).length ≤ acc.length + 1 := by rw [List.length_append]; split <;> simp
        have HA2 : Hq ((t = [] → (acc ++ if t = [] then [] else [txt t]) = acc) ∧ (t ≠ [] → (acc ++ if t = [] then [] else [txt t]) = acc ++ [txt t])) := hq ⟨fun h => by rw [if_pos h, List.append_nil], fun h => by rw [if_neg h]⟩
        generalize (acc ++ if t = [] then [] else [txt t]) = acc2 at *
        clear hR hc hr0
        go_wp2_with fail
        refine (HM0.o _).mono ?_
        rintro e w2 ⟨rfl, hb2⟩
        have HB2 := hq (below_trans hb.o hb2)
        have HRW := hq (hrow.o.grow hb2)
        clear hb2 hrow hb HM0
        go_wp2_with fail
        refine (HCU.o _ HB2.o).mono ?_
        rintro e w' ⟨rfl, kk, rfl⟩
        have HB3 := hq (below_drawn HB2.o kk)
        have HRW3 := hq (show PRow (w2.drewN kk) w.heap.size (.slice vb vn vc) acc from HRW.o.grow (below_drawn (Below.refl _ _) kk))
        have hws : w.heap.size ≤ (w2.drewN kk).heap.size := HB3.o.size
        clear HCU HRW HB2
        generalize w2.drewN kk = w3 at *
        go_upto_if 24 with fail
        go_cut [6] from 13 to 57 (fun v wx => (∃ vb vn vc, v = .slice vb vn vc) ∧ Hq (PRow wx w.heap.size v acc2) ∧ Hq (Below w.heap.size w wx))
        case first =>
          by_cases ht : t = []
          · have e1 : t.isEmpty = true := by rw [ht]; rfl
            have HEQ := hq (HA2.o.1 ht)
            clear HA2 ht
            simp only [e1, Bool.not_true]
            go_wp2_with fail
            go_meet
            exact ⟨⟨_, _, _, rfl⟩, hq (by rw [HEQ.o]; exact HRW3.o), HB3⟩
          · have e1 : t.isEmpty = false := by cases t with | nil => exact absurd rfl ht | cons _ _ => rfl
            have HEQ := hq (HA2.o.2 ht)
            clear HA2 ht
            simp only [e1, Bool.not_false]
            go_wp2_with (at_builtin; refine wpList_append_own _ rfl _ _ 41 rfl w.heap.size 53 i0 (.agg #[.bool false, .string ⟨#[]⟩, .string ⟨#[]⟩, .string ⟨#[]⟩, .string ⟨#[]⟩]) 5 72 Tryd.underlying41 hi hz0 hz1 hz2 rfl (by decide) _ _ _ rfl (HRW3.o.alloc _) ⟨w3.heap.size, 0, none⟩ 1 1 [.bool false, .string (st t), .string (st []), .string (st []), .string (st [])] rfl rfl (cells_of_new _ [.bool false, .string (st t), .string (st []), .string (st []), .string (st [])] _) (part_one _ _ _ _ _) (by unfold maxLen; omega) (by omega) (by rw [World.size_alloc]; omega) ?_)
            intro v' w4 hown4 hgrow4 _
            have hb4 := (HB3.o.alloc hws (.cells #[.bool false, .string (st t), .string (st []), .string (st []), .string (st [])] 53)).grown hgrow4 (by rw [World.size_alloc]; omega) (fun j ej => (HRW3.o.lt j ej).1)
            have hr4 : PRow w4 w.heap.size v' acc2 := by unfold PRow; rw [HEQ.o, partCells_snoc, List.length_append]; exact hown4
            have hf4 := row_form hr4
            have HR4 := hq hr4
            have HB4 := hq hb4
            have HF4 := hq hf4
            clear hown4 hgrow4 hr4 hf4 hb4 HEQ
            go_wp2_with fail
            go_meet
            exact ⟨HF4.o, HR4, HB4⟩
        case rest =>
          clear HRW3 HB3 hws HA2
          obtain ⟨⟨ub, un, uc, rfl⟩, HRC, HBC⟩ := hcut
          have HPW := hq (Whole.made wc 53 #[.bool true, .string (st []), .string (st []), .string (st []), .string (st [])])
          have hbc := HBC.o.size
          have HRP := hq (show PRow (wc.alloc (.cells #[.bool true, .string (st []), .string (st []), .string (st []), .string (st [])] 53)) w.heap.size (.slice ub un uc) acc2 from HRC.o.grow (below_alloc wc _))
          have HBP := hq (HBC.o.alloc hbc (.cells #[.bool true, .string (st []), .string (st []), .string (st []), .string (st [])] 53))
          have HOB : Hq (∀ j, (Value.slice ub un uc).ownBlock = some j → j ≠ wc.heap.size) := hq (fun j ej => by have := (HRC.o.lt j ej).2; omega)
          clear HRC HBC
          have HGW : Hq (w.heap.size ≤ wc.heap.size) := hq hbc
          generalize hg : wc.heap.size = g at *
          have HSD := hq (fun (z : Int) (hz : z = 0 ∨ z = 1 ∨ z = 2) W => side_any z hz W)
          go_wp2_with fail
          go_loopw [8, 33] (fun rv i wz => ∃ (z : Int) (rs b0 b1 b2 : Bs), 0 ≤ z ∧ z ≤ 3 ∧ rv = .string (st rs) ∧ i = .int .i64 z ∧ Hq (PRow wz w.heap.size (.slice ub un uc) acc2) ∧ Hq (Below w.heap.size w wz) ∧ Hq (Whole wz g 53 #[.bool true, .string (st []), .string (st b0), .string (st b1), .string (st b2)]) ∧ Hq (R = mkz n f acc2 z b0 b1 b2 rs) ∧ rs.length ≤ r'.length) (fun _ i _ => 3 - (intOf i).toNat)
          case atStart => exact ⟨0, r', [], [], [], by omega, by omega, rfl, rfl, HRP, HBP, HPW, HRZ, Nat.le_refl _⟩
          case round =>
            obtain ⟨z, rs, b0, b1, b2, hz0', hz3, rfl, rfl, hrw, hbw', hwh, hrz, hrl'⟩ := hrel
            clear HRP HBP HPW HRZ hg
            have hwr := hbw'.o.size
            by_cases hlt : z < 3
            · have hzz : z = 0 ∨ z = 1 ∨ z = 2 := by omega
              rcases hzz with rfl | rfl | rfl
              · have HS1 := hq (fun W => HSD.o 0 (by omega) W)
                have HM1 := hq (fun W => HMK.o 1 (by omega) W)
                have hsg : sgnOf 1 = 124 := rfl
                rw [hsg] at HM1
                clear hsg HMK HSD
                cases hcc : cutL (mrk 124 n) rs with
                | none =>
                  have HN : Hq (R = none) := hq (hrz.o.trans (mkz_no (c := 124) (by simp) hcc))
                  have HCU := hq (fun W (hW : Below w.heap.size w W) => cut_no_any rs (mrk 124 n) W (HMX.o W hW) (by omega) (mrk_ne _ _) hcc)
                  clear hrz hcc
                  go_wp2_with fail
                  refine (HS1.o _).mono ?_
                  rintro e w' ⟨rfl, rfl⟩
                  clear HS1
                  go_wp2_with fail
                  refine (HM1.o _).mono ?_
                  rintro e w6 ⟨rfl, hb6⟩
                  have HB6 := hq (hbw'.o.trans (hb6.mono hwr))
                  have HX6 := hq (hwh.o.grow hb6)
                  have HR6 := hq (hrw.o.grow hb6)
                  clear hb6 HM1 hbw' hwh hrw
                  go_wp2_with fail
                  refine (HCU.o _ HB6.o).mono ?_
                  rintro e w' ⟨rfl, k2, rfl⟩
                  have HB7 := hq (below_drawn HB6.o k2)
                  have HX7 := hq (show Whole (w6.drewN k2) g 53 #[.bool true, .string (st []), .string (st b0), .string (st b1), .string (st b2)] from HX6.o)
                  have HR7 := hq (show PRow (w6.drewN k2) w.heap.size (.slice ub un uc) acc2 from HR6.o.grow (below_drawn (Below.refl _ _) k2))
                  clear HCU HB6 HX6 HR6
                  generalize w6.drewN k2 = w7 at *
                  have y0 := HX7.o.at_ 3
                  have y1 := HX7.o.free 3
                  go_wp2_with fail
                  go_ret2
                  exact ⟨by rw [HN.o]; rfl, below_set HB7.o HGW.o _⟩
                | some xx =>
                  obtain ⟨u, q⟩ := xx
                  have hcl2 := cutL_len hcc
                  rw [mrk_len] at hcl2
                  have HN : Hq (R = mkz n f acc2 1 b0 u b2 q) := hq (hrz.o.trans (mkz_0 hcc))
                  have HCU := hq (fun W (hW : Below w.heap.size w W) => cut_yes_any rs (mrk 124 n) u q W (HMX.o W hW) (by omega) (mrk_ne _ _) hcc)
                  clear hrz hcc
                  go_wp2_with fail
                  refine (HS1.o _).mono ?_
                  rintro e w' ⟨rfl, rfl⟩
                  clear HS1
                  go_wp2_with fail
                  refine (HM1.o _).mono ?_
                  rintro e w6 ⟨rfl, hb6⟩
                  have HB6 := hq (hbw'.o.trans (hb6.mono hwr))
                  have HX6 := hq (hwh.o.grow hb6)
                  have HR6 := hq (hrw.o.grow hb6)
                  clear hb6 HM1 hbw' hwh hrw
                  go_wp2_with fail
                  refine (HCU.o _ HB6.o).mono ?_
                  rintro e w' ⟨rfl, k2, rfl⟩
                  have HB7 := hq (below_drawn HB6.o k2)
                  have HX7 := hq (show Whole (w6.drewN k2) g 53 #[.bool true, .string (st []), .string (st b0), .string (st b1), .string (st b2)] from HX6.o)
                  have HR7 := hq (show PRow (w6.drewN k2) w.heap.size (.slice ub un uc) acc2 from HR6.o.grow (below_drawn (Below.refl _ _) k2))
                  clear HCU HB6 HX6 HR6
                  generalize w6.drewN k2 = w7 at *
                  have y0 := HX7.o.at_ 3
                  have y1 := HX7.o.free 3
                  go_wp2_with fail
                  go_roundw
                  case rel => exact ⟨1, q, b0, u, b2, by omega, by omega, rfl, rfl, hq (HR7.o.set HOB.o _), hq (below_set HB7.o HGW.o _), hq (HX7.o.put 3 (.string (st u))), HN, by omega⟩
                  case measure => simp [intOf]
              · have HS1 := hq (fun W => HSD.o 1 (by omega) W)
                have HM1 := hq (fun W => HMK.o 2 (by omega) W)
                have hsg : sgnOf 2 = 61 := rfl
                rw [hsg] at HM1
                clear hsg HMK HSD
                cases hcc : cutL (mrk 61 n) rs with
                | none =>
                  have HN : Hq (R = none) := hq (hrz.o.trans (mkz_no (c := 61) (by simp) hcc))
                  have HCU := hq (fun W (hW : Below w.heap.size w W) => cut_no_any rs (mrk 61 n) W (HMX.o W hW) (by omega) (mrk_ne _ _) hcc)
                  clear hrz hcc
                  go_wp2_with fail
                  refine (HS1.o _).mono ?_
                  rintro e w' ⟨rfl, rfl⟩
                  clear HS1
                  go_wp2_with fail
                  refine (HM1.o _).mono ?_
                  rintro e w6 ⟨rfl, hb6⟩
                  have HB6 := hq (hbw'.o.trans (hb6.mono hwr))
                  have HX6 := hq (hwh.o.grow hb6)
                  have HR6 := hq (hrw.o.grow hb6)
                  clear hb6 HM1 hbw' hwh hrw
                  go_wp2_with fail
                  refine (HCU.o _ HB6.o).mono ?_
                  rintro e w' ⟨rfl, k2, rfl⟩
                  have HB7 := hq (below_drawn HB6.o k2)
                  have HX7 := hq (show Whole (w6.drewN k2) g 53 #[.bool true, .string (st []), .string (st b0), .string (st b1), .string (st b2)] from HX6.o)
                  have HR7 := hq (show PRow (w6.drewN k2) w.heap.size (.slice ub un uc) acc2 from HR6.o.grow (below_drawn (Below.refl _ _) k2))
                  clear HCU HB6 HX6 HR6
                  generalize w6.drewN k2 = w7 at *
                  have y0 := HX7.o.at_ 2
                  have y1 := HX7.o.free 2
                  go_wp2_with fail
                  go_ret2
                  exact ⟨by rw [HN.o]; rfl, below_set HB7.o HGW.o _⟩
                | some xx =>
                  obtain ⟨u, q⟩ := xx
                  have hcl2 := cutL_len hcc
                  rw [mrk_len] at hcl2
                  have HN : Hq (R = mkz n f acc2 2 u b1 b2 q) := hq (hrz.o.trans (mkz_1 hcc))
                  have HCU := hq (fun W (hW : Below w.heap.size w W) => cut_yes_any rs (mrk 61 n) u q W (HMX.o W hW) (by omega) (mrk_ne _ _) hcc)
                  clear hrz hcc
                  go_wp2_with fail
                  refine (HS1.o _).mono ?_
                  rintro e w' ⟨rfl, rfl⟩
                  clear HS1
                  go_wp2_with fail
                  refine (HM1.o _).mono ?_
                  rintro e w6 ⟨rfl, hb6⟩
                  have HB6 := hq (hbw'.o.trans (hb6.mono hwr))
                  have HX6 := hq (hwh.o.grow hb6)
                  have HR6 := hq (hrw.o.grow hb6)
                  clear hb6 HM1 hbw' hwh hrw
                  go_wp2_with fail
                  refine (HCU.o _ HB6.o).mono ?_
                  rintro e w' ⟨rfl, k2, rfl⟩
                  have HB7 := hq (below_drawn HB6.o k2)
                  have HX7 := hq (show Whole (w6.drewN k2) g 53 #[.bool true, .string (st []), .string (st b0), .string (st b1), .string (st b2)] from HX6.o)
                  have HR7 := hq (show PRow (w6.drewN k2) w.heap.size (.slice ub un uc) acc2 from HR6.o.grow (below_drawn (Below.refl _ _) k2))
                  clear HCU HB6 HX6 HR6
                  generalize w6.drewN k2 = w7 at *
                  have y0 := HX7.o.at_ 2
                  have y1 := HX7.o.free 2
                  go_wp2_with fail
                  go_roundw
                  case rel => exact ⟨2, q, u, b1, b2, by omega, by omega, rfl, rfl, hq (HR7.o.set HOB.o _), hq (below_set HB7.o HGW.o _), hq (HX7.o.put 2 (.string (st u))), HN, by omega⟩
                  case measure => simp [intOf]
              · have HS1 := hq (fun W => HSD.o 2 (by omega) W)
                have HM1 := hq (fun W => HMK.o 3 (by omega) W)
                have hsg : sgnOf 3 = 62 := rfl
                rw [hsg] at HM1
                clear hsg HMK HSD
                cases hcc : cutL (mrk 62 n) rs with
                | none =>
                  have HN : Hq (R = none) := hq (hrz.o.trans (mkz_no (c := 62) (by simp) hcc))
                  have HCU := hq (fun W (hW : Below w.heap.size w W) => cut_no_any rs (mrk 62 n) W (HMX.o W hW) (by omega) (mrk_ne _ _) hcc)
                  clear hrz hcc
                  go_wp2_with fail
                  refine (HS1.o _).mono ?_
                  rintro e w' ⟨rfl, rfl⟩
                  clear HS1
                  go_wp2_with fail
                  refine (HM1.o _).mono ?_
                  rintro e w6 ⟨rfl, hb6⟩
                  have HB6 := hq (hbw'.o.trans (hb6.mono hwr))
                  have HX6 := hq (hwh.o.grow hb6)
                  have HR6 := hq (hrw.o.grow hb6)
                  clear hb6 HM1 hbw' hwh hrw
                  go_wp2_with fail
                  refine (HCU.o _ HB6.o).mono ?_
                  rintro e w' ⟨rfl, k2, rfl⟩
                  have HB7 := hq (below_drawn HB6.o k2)
                  have HX7 := hq (show Whole (w6.drewN k2) g 53 #[.bool true, .string (st []), .string (st b0), .string (st b1), .string (st b2)] from HX6.o)
                  have HR7 := hq (show PRow (w6.drewN k2) w.heap.size (.slice ub un uc) acc2 from HR6.o.grow (below_drawn (Below.refl _ _) k2))
                  clear HCU HB6 HX6 HR6
                  generalize w6.drewN k2 = w7 at *
                  have y0 := HX7.o.at_ 4
                  have y1 := HX7.o.free 4
                  go_wp2_with fail
                  go_ret2
                  exact ⟨by rw [HN.o]; rfl, below_set HB7.o HGW.o _⟩
                | some xx =>
                  obtain ⟨u, q⟩ := xx
                  have hcl2 := cutL_len hcc
                  rw [mrk_len] at hcl2
                  have HN : Hq (R = mkz n f acc2 3 b0 b1 u q) := hq (hrz.o.trans (mkz_2 hcc))
                  have HCU := hq (fun W (hW : Below w.heap.size w W) => cut_yes_any rs (mrk 62 n) u q W (HMX.o W hW) (by omega) (mrk_ne _ _) hcc)
                  clear hrz hcc
                  go_wp2_with fail
                  refine (HS1.o _).mono ?_
                  rintro e w' ⟨rfl, rfl⟩
                  clear HS1
                  go_wp2_with fail
                  refine (HM1.o _).mono ?_
                  rintro e w6 ⟨rfl, hb6⟩
                  have HB6 := hq (hbw'.o.trans (hb6.mono hwr))
                  have HX6 := hq (hwh.o.grow hb6)
                  have HR6 := hq (hrw.o.grow hb6)
                  clear hb6 HM1 hbw' hwh hrw
                  go_wp2_with fail
                  refine (HCU.o _ HB6.o).mono ?_
                  rintro e w' ⟨rfl, k2, rfl⟩
                  have HB7 := hq (below_drawn HB6.o k2)
                  have HX7 := hq (show Whole (w6.drewN k2) g 53 #[.bool true, .string (st []), .string (st b0), .string (st b1), .string (st b2)] from HX6.o)
                  have HR7 := hq (show PRow (w6.drewN k2) w.heap.size (.slice ub un uc) acc2 from HR6.o.grow (below_drawn (Below.refl _ _) k2))
                  clear HCU HB6 HX6 HR6
                  generalize w6.drewN k2 = w7 at *
                  have y0 := HX7.o.at_ 4
                  have y1 := HX7.o.free 4
                  go_wp2_with fail
                  go_roundw
                  case rel => exact ⟨3, q, b0, b1, u, by omega, by omega, rfl, rfl, hq (HR7.o.set HOB.o _), hq (below_set HB7.o HGW.o _), hq (HX7.o.put 4 (.string (st u))), HN, by omega⟩
                  case measure => simp [intOf]
            · obtain rfl : z = 3 := by omega
              have HN := hq (hrz.o.trans mkz_3)
              have y0 := hwh.o.at_ 0
              have y1 := hwh.o.at_ 1
              have y2 := hwh.o.at_ 2
              have y3 := hwh.o.at_ 3
              have y4 := hwh.o.at_ 4
              clear hrz HSD HMK
              go_wp2_with (at_builtin; refine wpList_append_own _ rfl _ _ 41 rfl w.heap.size 53 i0 (.agg #[.bool false, .string ⟨#[]⟩, .string ⟨#[]⟩, .string ⟨#[]⟩, .string ⟨#[]⟩]) 5 72 Tryd.underlying41 hi hz0 hz1 hz2 rfl (by decide) _ _ _ rfl (hrw.o.alloc _) ⟨wr.heap.size, 0, none⟩ 1 1 [.bool true, .string (st []), .string (st b0), .string (st b1), .string (st b2)] rfl rfl (cells_of_new _ [.bool true, .string (st []), .string (st b0), .string (st b1), .string (st b2)] _) (part_one _ _ _ _ _) (by unfold maxLen; omega) (by omega) (by rw [World.size_alloc]; omega) ?_)
              intro v' w4 hown4 hgrow4 _
              have hb4 := (hbw'.o.alloc hwr (.cells #[.bool true, .string (st []), .string (st b0), .string (st b1), .string (st b2)] 53)).grown hgrow4 (by rw [World.size_alloc]; omega) (fun j ej => (hrw.o.lt j ej).1)
              have hr4 : PRow w4 w.heap.size v' (acc2 ++ [⟨true, [], b0, b1, b2⟩]) := by unfold PRow; rw [partCells_snoc, List.length_append]; exact hown4
              have HR4 := hq hr4
              have HB4 := hq hb4
              clear hown4 hgrow4 hr4 hb4 y0 y1 y2 y3 y4 hwh hrw hbw'
              go_wp2_with fail
              go_roundw
              case rel => exact ⟨rs, _, f, rfl, HR4, HB4, HN, by omega, by omega, by rw [List.length_append, List.length_singleton]; omega⟩
              case measure => simp only [strN, st_size]; omega
end Go.Proofs.YtekihjffefokjaaDoor
