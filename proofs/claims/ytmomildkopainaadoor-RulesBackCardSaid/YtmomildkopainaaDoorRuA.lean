/-
  WALKS: rules.further and its two closures.
-/
import Derived.Test.YtmomildkopainaaDoorShelf
import Derived.Test.YtmomildkopainaaDoorRuM
import Derived.Test.YtmomildkopainaaDoorStrA
import Derived.Laws.OwnMore
import Derived.Deep.LoopGhost
import Derived.Deep.CutRange
import Derived.Deep.RegionHeld3
import Derived.Deep.RegionWith
namespace Go.Proofs.YtmomildkopainaaDoor
open Go.RowKit

theorem infoB : (Tryd.prog.info? 4).map (fun i => (i.zero, i.size, i.bytes)) = some (some (.bool false), 1, 1) := by kernel_rfl
theorem made_map (z : Value) (n : Nat) : madeCells #[z] n = ((List.range n).map fun _ => z).toArray := by
  rw [← Array.toList_inj, toList_madeCells_one]
  simp [List.map_const']
/-- a row of bools, as it lies -/
def bC (l : List Bool) : Array Value := (l.map Value.bool).toArray
theorem bC_set (l : List Bool) (i : Nat) (b : Bool) : (bC l).setIfInBounds i (.bool b) = bC (l.set i b) := by
  unfold bC
  rw [List.setIfInBounds_toArray, List.map_set]
theorem bC_at {l : List Bool} {i : Nat} (hi : i < l.length) : (bC l)[i]? = some (.bool l[i]) := by
  unfold bC
  simp [hi]
theorem mk_bools (n : Nat) (hn : n ≤ 1000000) (W : World) : (Instr.makeSlice 75 (.int .i64 (n : Int)) (.int .i64 (n : Int))).run Tryd.prog W = .ok (.slice (some ⟨W.heap.size, 0, none⟩) n n) (W.alloc (.cells (bC (List.replicate n false)) 4)) := by
  obtain ⟨i0, hi, hz0, hz1, hz2⟩ := info_parts infoB
  have h := run_make W 75 4 i0 (.bool false) Tryd.underlying75 hi hz0 .i64 .i64 (n : Int) (n : Int) (by omega) (by omega) (by rw [hz2]; omega) (by omega)
  rw [hz1, Nat.mul_one, Int.toNat_natCast] at h
  rw [h]
  have e : madeCells #[Value.bool false] n = bC (List.replicate n false) := by
    rw [made_map]
    unfold bC
    rw [List.map_const', List.length_range, List.map_replicate]
  rw [← e]
  rfl
theorem orScan_at : ∀ (l : List Bool) (a : Bool) (i : Nat), i < l.length → (orScan a l)[i]? = some (a || (l.take (i + 1)).any id)
  | [], _, _, h => absurd h (by simp)
  | x :: l, a, 0, _ => by simp [orScan]
  | x :: l, a, i + 1, h => by
    rw [orScan, List.getElem?_cons_succ, orScan_at l (a || x) i (by simpa using h)]
    simp [Bool.or_assoc]
theorem any_succ {l : List Bool} {i : Nat} (hi : i < l.length) : (l.take (i + 1)).any id = ((l.take i).any id || l[i]) := by
  rw [List.take_succ_eq_append_getElem hi, List.any_append]
  simp
/-- what a step's closure answers -/
def StepPost (W : World) (n : Nat) (l : List Bool) (e : Ending) (W' : World) : Prop := (∃ g', e = .returned (.slice (some ⟨g', 0, none⟩) n n) ∧ Whole W' g' 4 (bC l)) ∧ Below W.heap.size W W'
set_option maxHeartbeats 2000000 in
set_option maxRecDepth 1000000 in
theorem further1_any (W : World) (g : Nat) (f : List Bool) (n : Nat) (hn : f.length = n) (h4 : n ≤ 100000) (h : Whole W g 4 (bC f)) :
    Calls Tryd.prog 56 #[.slice (some ⟨g, 0, none⟩) (n : Nat) (n : Nat)] W (StepPost W n (orScan false f)) := by
  have hm := mk_bools n (by omega)
  have HN := hq hn
  have HF : Hq (∀ i (hi : i < f.length) wr, Below W.heap.size W wr → wr.cell? ⟨g, i, none⟩ = some (.bool f[i])) := hq (fun i hi wr hb => (h.grow hb).at_ i |>.trans (bC_at hi))
  have HB := hq (below_alloc W (.cells (bC (List.replicate n false)) 4))
  have HX := hq (Whole.made W 4 (bC (List.replicate n false)))
  have HP : Hq (∀ W' g', Whole W' g' 4 (bC (orScan false f)) → Below W.heap.size W W' → StepPost W n (orScan false f) (.returned (.slice (some ⟨g', 0, none⟩) n n)) W') := hq (fun W' g' h1 h2 => ⟨⟨g', rfl, h1⟩, h2⟩)
  generalize StepPost W n (orScan false f) = PP at *
  clear h hn
  go_enter Tryd.func56, Tryd.ntmps56
  go_wp2_with fail
  go_loopg [4, 5, 11] n (fun gk u4 _ u wr => ∃ (i : Nat) (cur : List Bool), i + gk ≤ n ∧ n ≤ i + gk ∧ u = .int .i64 (i : Int) ∧ u4 = .bool ((f.take i).any id) ∧ Hq (Whole wr W.heap.size 4 (bC cur)) ∧ Hq (cur.length = n ∧ ∀ j, j < i → cur[j]? = (orScan false f)[j]?) ∧ Hq (Below W.heap.size W wr))
  case atStart => exact ⟨0, _, by omega, by omega, rfl, rfl, HX, hq ⟨by simp, fun j h => absurd h (Nat.not_lt_zero _)⟩, HB⟩
  case round =>
    obtain ⟨i, cur, hi1, hi2, rfl, rfl, hw, hcur, hb⟩ := hrel
    by_cases hil : i < n
    · have hiz : (i : Int) < (n : Int) := by omega
      have hif : i < f.length := by have := HN.o; omega
      have c0 := HF.o i hif _ hb.o
      have c1 := hw.o.at_ i
      have c2 := hw.o.free i
      rw [bC_at (by have := hcur.o.1; omega)] at c1
      obtain ⟨u1, hu1⟩ : ∃ u1, u1 = cur[i]'(by have := hcur.o.1; omega) := ⟨_, rfl⟩
      rw [← hu1] at c1
      clear hu1
      have HS := hq (any_succ hif)
      have HO := hq (orScan_at f false i hif)
      have HV := hq (fun b : Bool => And.intro ((bC_set cur i b) ▸ hw.o.put i (.bool b)) (hb.o.setCell (p := ⟨W.heap.size, i, none⟩) (Nat.le_refl _) (.bool b)))
      have HNX : Hq (∀ b, (f.take (i + 1)).any id = b → (cur.set i b).length = n ∧ ∀ j, j < i + 1 → (cur.set i b)[j]? = (orScan false f)[j]?) := hq (fun b hbb => ⟨by rw [List.length_set]; exact hcur.o.1, fun j hj => by
        by_cases e : j = i
        · subst e
          rw [List.getElem?_set_self (by have := hcur.o.1; omega), HO.o, ← hbb]; simp
        · rw [List.getElem?_set_ne (fun h => e h.symm)]
          exact hcur.o.2 j (by omega)⟩)
      generalize (f.take i).any id = acc at *
      generalize f[i] = fi at *
      clear HF HX HB hw hcur hb HO HP
      cases acc with
      | true =>
        go_wp2_with fail
        go_roundg (gk - 1)
        case measure => omega
        case rel => exact ⟨i + 1, cur.set i true, by omega, by omega, int_eq (by omega), by rw [HS.o]; rfl, hq (HV.o true).1, hq (HNX.o true (by rw [HS.o]; rfl)), hq (HV.o true).2⟩
      | false =>
        go_wp2_with fail
        go_roundg (gk - 1)
        case measure => omega
        case rel => exact ⟨i + 1, cur.set i fi, by omega, by omega, int_eq (by omega), by rw [HS.o]; rfl, hq (HV.o fi).1, hq (HNX.o fi (by rw [HS.o]; rfl)), hq (HV.o fi).2⟩
    · have hiz : ¬ (i : Int) < (n : Int) := by omega
      have HE : Hq (cur = orScan false f) := hq (List.ext_getElem? fun j => by
        rcases Nat.lt_or_ge j n with hj | hj
        · exact hcur.o.2 j (by omega)
        · rw [List.getElem?_eq_none (by rw [hcur.o.1]; exact hj), List.getElem?_eq_none (by rw [orScan_len, HN.o]; exact hj)])
      have HV := hq (HP.o _ _ (HE.o ▸ hw.o) hb.o)
      clear HF HX HB hw hcur hb HP HE
      go_wp2_with fail
      first | exact HV.o | (go_ret; exact HV.o)
theorem andRow_at (x : Bs) : ∀ (fs : List Bool) (ys : List Bs) (i : Nat) (h1 : i < fs.length) (h2 : i < ys.length), (andRow x fs ys)[i]? = some (fs[i] && (stepAny x || x == ys[i]))
  | [], _, _, h, _ => absurd h (by simp)
  | _ :: _, [], _, _, h => absurd h (by simp)
  | f :: fs, y :: ys, 0, _, _ => by simp [andRow]
  | f :: fs, y :: ys, i + 1, h1, h2 => by
    rw [andRow, List.getElem?_cons_succ, andRow_at x fs ys i (by simpa using h1) (by simpa using h2)]
    simp
set_option maxHeartbeats 2000000 in
set_option maxRecDepth 1000000 in
theorem further2_any (W : World) (g gs gp : Nat) (f : List Bool) (n : Nat) (x : Bs) (r : SRow) (hn : f.length = n) (hr : r.l.length + 1 = n) (h4 : n ≤ 100000) (h : Whole W g 4 (bC f)) (hs : Whole W gs 9 #[.string (st x)]) (hp : Whole W gp 33 #[r.v]) (hrow : r.ok W) :
    Calls Tryd.prog 57 #[.slice (some ⟨g, 0, none⟩) (n : Nat) (n : Nat), .pointer (some ⟨gp, 0, none⟩), .pointer (some ⟨gs, 0, none⟩)] W (StepPost W n (false :: andRow x f r.l)) := by
  have hm := mk_bools n (by omega)
  have HN := hq (And.intro hn hr)
  have HF : Hq (∀ i (hi : i < f.length) wr, Below W.heap.size W wr → wr.cell? ⟨g, i, none⟩ = some (.bool f[i])) := hq (fun i hi wr hb => (h.grow hb).at_ i |>.trans (bC_at hi))
  have HB := hq (below_alloc W (.cells (bC (List.replicate n false)) 4))
  have HX := hq (Whole.made W 4 (bC (List.replicate n false)))
  have HS := hq (fun wr (hb : Below W.heap.size W wr) => (hs.grow hb).at_ 0)
  have HPW := hq (fun wr (hb : Below W.heap.size W wr) => (hp.grow hb).at_ 0)
  have HR := hq (fun wr (hb : Below W.heap.size W wr) => (hrow.grow hb).rd)
  have hle := hrow.le
  have hcp := hrow.cp
  unfold maxLen at hcp
  have HP : Hq (∀ W' g', Whole W' g' 4 (bC (false :: andRow x f r.l)) → Below W.heap.size W W' → StepPost W n (false :: andRow x f r.l) (.returned (.slice (some ⟨g', 0, none⟩) n n)) W') := hq (fun W' g' h1 h2 => ⟨⟨g', rfl, h1⟩, h2⟩)
  generalize StepPost W n (false :: andRow x f r.l) = PP at *
  obtain ⟨o, cap, l⟩ := r
  unfold SRow.v at HPW
  simp only at HPW HR HP HN hle hcp hr
  have c1 := HPW.o _ HB.o
  clear h hn hs hp hrow
  go_enter Tryd.func57, Tryd.ntmps57
  go_wp2_with fail
  clear c1
  go_loopg [6, 7, 13] l.length (fun gk _ _ u wr => ∃ (i : Nat) (cur : List Bool), i + gk ≤ l.length ∧ l.length ≤ i + gk ∧ u = .int .i64 (i : Int) ∧ Hq (Whole wr W.heap.size 4 (bC cur)) ∧ Hq (cur.length = n ∧ ∀ j, j < i + 1 → cur[j]? = (false :: andRow x f l)[j]?) ∧ Hq (Below W.heap.size W wr))
  case atStart => exact ⟨0, _, by omega, by omega, rfl, HX, hq ⟨by simp, fun j h => by
    obtain rfl : j = 0 := by omega
    rw [List.getElem?_replicate, if_pos (by have := HN.o; omega)]; rfl⟩, HB⟩
  case round =>
    obtain ⟨i, cur, hi1, hi2, rfl, hw, hcur, hb⟩ := hrel
    by_cases hil : i < l.length
    · have hiz : (i : Int) < (l.length : Int) := by omega
      have hin : i + 1 < n := by omega
      have hif : i < f.length := by have := HN.o; omega
      have hinz : (i : Int) < (n : Int) := by omega
      have hinz2 : (i : Int) + 1 < (n : Int) := by omega
      have c0 := HF.o i hif _ hb.o
      obtain ⟨b, fo, rfl, c1⟩ := HR.o _ hb.o i hil
      have c2 := HS.o _ hb.o
      have c3 := hw.o.at_ (i + 1)
      have c4 := hw.o.free (i + 1)
      rw [bC_at (by have := hcur.o.1; omega)] at c3
      obtain ⟨u1, hu1⟩ : ∃ u1, u1 = cur[i + 1]'(by have := hcur.o.1; omega) := ⟨_, rfl⟩
      rw [← hu1] at c3
      clear hu1
      have HO := hq (andRow_at x f l i hif hil)
      have HV := hq (fun b : Bool => And.intro ((bC_set cur (i + 1) b) ▸ hw.o.put (i + 1) (.bool b)) (hb.o.setCell (p := ⟨W.heap.size, i + 1, none⟩) (Nat.le_refl _) (.bool b)))
      have HNX : Hq (∀ b, (f[i] && (stepAny x || x == l[i])) = b → (cur.set (i + 1) b).length = n ∧ ∀ j, j < i + 1 + 1 → (cur.set (i + 1) b)[j]? = (false :: andRow x f l)[j]?) := hq (fun b hbb => ⟨by rw [List.length_set]; exact hcur.o.1, fun j hj => by
        by_cases e : j = i + 1
        · subst e
          rw [List.getElem?_set_self (by have := hcur.o.1; omega), List.getElem?_cons_succ, HO.o, ← hbb]
        · rw [List.getElem?_set_ne (fun h => e h.symm)]
          exact hcur.o.2 j (by omega)⟩)
      unfold stepAny at HNX
      generalize f[i] = fi at *
      generalize l[i] = y at *
      clear HF HX HB hw hcur hb HO HP HS HPW HR
      have e5 : ((i + 1 : Nat) : Int) = (i : Int) + 1 := by omega
      cases fi with
      | false =>
        go_wp2_with fail
        go_roundg (gk - 1)
        case measure => omega
        case rel => exact ⟨i + 1, _, by omega, by omega, int_eq (by omega), hq (HV.o false).1, hq (HNX.o false rfl), hq (HV.o false).2⟩
      | true =>
        cases hsa : (x == [42]) with
        | true =>
          have HSA := hq hsa
          go_wp2_with fail
          go_roundg (gk - 1)
          case measure => omega
          case rel => exact ⟨i + 1, _, by omega, by omega, int_eq (by omega), hq (HV.o true).1, hq (HNX.o true (by rw [HSA.o]; rfl)), hq (HV.o true).2⟩
        | false =>
          have HSA := hq hsa
          cases hse : (x == y) with
          | true =>
            have HSE := hq hse
            go_wp2_with fail
            go_roundg (gk - 1)
            case measure => omega
            case rel => exact ⟨i + 1, _, by omega, by omega, int_eq (by omega), hq (HV.o true).1, hq (HNX.o true (by rw [HSA.o, HSE.o]; rfl)), hq (HV.o true).2⟩
          | false =>
            have HSE := hq hse
            go_wp2_with fail
            go_roundg (gk - 1)
            case measure => omega
            case rel => exact ⟨i + 1, _, by omega, by omega, int_eq (by omega), hq (HV.o false).1, hq (HNX.o false (by rw [HSA.o, HSE.o]; rfl)), hq (HV.o false).2⟩
    · have hiz : ¬ (i : Int) < (l.length : Int) := by omega
      have HE : Hq (cur = false :: andRow x f l) := hq (List.ext_getElem? fun j => by
        rcases Nat.lt_or_ge j n with hj | hj
        · exact hcur.o.2 j (by omega)
        · rw [List.getElem?_eq_none (by rw [hcur.o.1]; exact hj), List.getElem?_eq_none (by rw [List.length_cons, andRow_len]; have := HN.o; omega)])
      have HV := hq (HP.o _ _ (HE.o ▸ hw.o) hb.o)
      clear HF HX HB hw hcur hb HP HE HS HPW HR
      go_wp2_with fail
      first | exact HV.o | (go_ret; exact HV.o)
/-- what further answers: a closure that turns a row -/
def FurPost (W : World) (x : Bs) (r : SRow) (e : Ending) (W' : World) : Prop := ∃ F caps, e = .returned (.func (.func F) #[] caps) ∧ Below W.heap.size W W' ∧ (∀ xs w, (callFunc F xs).run Tryd.prog w = .ok (.enter F xs) w) ∧
  ∀ WW, Below W'.heap.size W' WW → ∀ g f, f.length = r.l.length + 1 → r.l.length ≤ 1000 → Whole WW g 4 (bC f) → Calls Tryd.prog F (#[.slice (some ⟨g, 0, none⟩) (r.l.length + 1) (r.l.length + 1)] ++ caps) WW (StepPost WW (r.l.length + 1) (rowM r.l x f))
set_option maxHeartbeats 2000000 in
set_option maxRecDepth 1000000 in
theorem further_any (W : World) (x : Bs) (r : SRow) (hrow : r.ok W) :
    Calls Tryd.prog 36 #[.string (st x), r.v] W (FurPost W x r) := by
  have hb1 := below_alloc W (.cells #[.string (st x)] 9)
  have hb2 := below_alloc (W.alloc (.cells #[.string (st x)] 9)) (.cells #[r.v] 33)
  have hb := below_trans hb1 hb2
  have HS := (Whole.made W 9 #[.string (st x)]).grow hb2
  have HPW := Whole.made (W.alloc (.cells #[.string (st x)] 9)) 33 #[r.v]
  rw [World.size_alloc] at HPW
  have hR := hrow.grow hb
  have HP1 : Hq (isRow x = true → FurPost W x r (.returned (.func (.func 56) #[] #[])) ((W.alloc (.cells #[.string (st x)] 9)).alloc (.cells #[r.v] 33))) := hq (fun hx => by
    refine ⟨_, _, rfl, hb, fun xs w => by kernel_rfl, fun WW hw g f hf hl h => ?_⟩
    unfold rowM
    rw [if_pos hx]
    exact further1_any WW g f (r.l.length + 1) hf (by omega) h)
  have HP2 : Hq (¬ isRow x = true → FurPost W x r (.returned (.func (.func 57) #[] #[.pointer (some ⟨W.heap.size + 1, 0, none⟩), .pointer (some ⟨W.heap.size, 0, none⟩)])) ((W.alloc (.cells #[.string (st x)] 9)).alloc (.cells #[r.v] 33))) := hq (fun hx => by
    refine ⟨_, _, rfl, hb, fun xs w => by kernel_rfl, fun WW hw g f hf hl h => ?_⟩
    unfold rowM
    rw [if_neg hx]
    exact further2_any WW g W.heap.size (W.heap.size + 1) f (r.l.length + 1) x r hf rfl (by omega) h (HS.grow hw) (HPW.grow hw) (hR.grow hw))
  have hmf : ∀ fn first cap w, (Instr.makeFunc fn first cap).run Tryd.prog w = .ok (.func fn first cap) w := fun _ _ _ _ => rfl
  have c0 := HS.at_ 0
  have HX := hq (show isRow x = (x == [42, 42]) from rfl)
  generalize FurPost W x r = PP at *
  clear hb1 hb2 hb HPW hR hrow HS
  by_cases hx : isRow x = true
  · have HV := hq (HP1.o hx)
    have e1 : (x == [42, 42]) = true := by rw [← HX.o]; exact hx
    clear HP1 HP2 hx
    go_enter Tryd.func36, Tryd.ntmps36
    go_wp2_with fail
    first | exact HV.o | (go_ret; exact HV.o)
  · have HV := hq (HP2.o hx)
    have e1 : (x == [42, 42]) = false := by rw [← HX.o]; simpa using hx
    clear HP1 HP2 hx
    go_enter Tryd.func36, Tryd.ntmps36
    go_wp2_with fail
    first | exact HV.o | (go_ret; exact HV.o)
end Go.Proofs.YtmomildkopainaaDoor
