/-
  WALKS: rules.further and its two closures.
  WALKS: rules.Match, whole.
  RULES in memory; WALKS: pointer.Right, rules.Right, rules.Find.
  WALKS: two rows of texts beside each other (the document's Compare, Same of paths); is a row short? (cut out of OrR and OrT)
-/
import Derived.Test.YtmadgdafgkleiaaGreatDoorShelf
import Derived.Test.YtmadgdafgkleiaaGreatDoorBas
import Derived.Laws.OwnMore
import Derived.Deep.LoopGhost
import Derived.Deep.CutRange
import Derived.Deep.RegionHeld3
import Derived.Deep.RegionWith
import Derived.Test.YtmadgdafgkleiaaGreatDoorRun
namespace Go.Proofs.YtmadgdafgkleiaaGreatDoor
open Go.RowKit
theorem infoB : (Tryz.prog.info? 4).map (fun i => (i.zero, i.size, i.bytes)) = some (some (.bool false), 1, 1) := by kernel_rfl
theorem made_map (z : Value) (n : Nat) : madeCells #[z] n = ((List.range n).map fun _ => z).toArray := by
  rw [← Array.toList_inj, toList_madeCells_one]
  simp [List.map_const']
def bC (l : List Bool) : Array Value := (l.map Value.bool).toArray
theorem bC_set (l : List Bool) (i : Nat) (b : Bool) : (bC l).setIfInBounds i (.bool b) = bC (l.set i b) := by
  unfold bC
  rw [List.setIfInBounds_toArray, List.map_set]
theorem bC_at {l : List Bool} {i : Nat} (hi : i < l.length) : (bC l)[i]? = some (.bool l[i]) := by
  unfold bC
  simp [hi]
theorem mk_bools (n : Nat) (hn : n ≤ 1000000) (W : World) : (Instr.makeSlice 52 (.int .i64 (n : Int)) (.int .i64 (n : Int))).run Tryz.prog W = .ok (.slice (some ⟨W.heap.size, 0, none⟩) n n) (W.alloc (.cells (bC (List.replicate n false)) 4)) := by
  obtain ⟨i0, hi, hz0, hz1, hz2⟩ := info_parts infoB
  have h := run_make W 52 4 i0 (.bool false) Tryz.underlying52 hi hz0 .i64 .i64 (n : Int) (n : Int) (by omega) (by omega) (by rw [hz2]; omega) (by omega)
  rw [hz1, Nat.mul_one, Int.toNat_natCast] at h
  rw [h]
  have e : madeCells #[Value.bool false] n = bC (List.replicate n false) := by
    rw [made_map]
    unfold bC
    rw [List.map_const', List.length_range, List.map_replicate]
  rw [← e]
  rfl
theorem orScan_at : ∀ (l : List Bool) (a : Bool) (i : Nat), i < l.length → (orScan a l)[i]? = some (a || (l.take (i + 1)).any id)
  | [], _, _, h => absurd h (by simp)
  | x :: l, a, 0, _ => by simp [orScan]
  | x :: l, a, i + 1, h => by
    rw [orScan, List.getElem?_cons_succ, orScan_at l (a || x) i (by simpa using h)]
    simp [Bool.or_assoc]
theorem any_succ {l : List Bool} {i : Nat} (hi : i < l.length) : (l.take (i + 1)).any id = ((l.take i).any id || l[i]) := by
  rw [List.take_succ_eq_append_getElem hi, List.any_append]
  simp
def StepPost (W : World) (n : Nat) (l : List Bool) (e : Ending) (W' : World) : Prop := (∃ g', e = .returned (.slice (some ⟨g', 0, none⟩) n n) ∧ Whole W' g' 4 (bC l)) ∧ Below W.heap.size W W'
set_option maxHeartbeats 2000000 in
set_option maxRecDepth 1000000 in
theorem further1_any (W : World) (g : Nat) (f : List Bool) (n : Nat) (hn : f.length = n) (h4 : n ≤ 100000) (h : Whole W g 4 (bC f)) :
    Calls Tryz.prog 43 #[.slice (some ⟨g, 0, none⟩) (n : Nat) (n : Nat)] W (StepPost W n (orScan false f)) := by
  have hm := mk_bools n (by omega)
  have HN := hq hn
  have HF : Hq (∀ i (hi : i < f.length) wr, Below W.heap.size W wr → wr.cell? ⟨g, i, none⟩ = some (.bool f[i])) := hq (fun i hi wr hb => (h.grow hb).at_ i |>.trans (bC_at hi))
  have HB := hq (below_alloc W (.cells (bC (List.replicate n false)) 4))
  have HX := hq (Whole.made W 4 (bC (List.replicate n false)))
  have HP : Hq (∀ W' g', Whole W' g' 4 (bC (orScan false f)) → Below W.heap.size W W' → StepPost W n (orScan false f) (.returned (.slice (some ⟨g', 0, none⟩) n n)) W') := hq (fun W' g' h1 h2 => ⟨⟨g', rfl, h1⟩, h2⟩)
  generalize StepPost W n (orScan false f) = PP at *
  clear h hn
  go_enter Tryz.func43, Tryz.ntmps43
  go_wp2_with fail
  go_loopg [4, 5, 11] n (fun gk u4 _ u wr => ∃ (i : Nat) (cur : List Bool), i + gk ≤ n ∧ n ≤ i + gk ∧ u = .int .i64 (i : Int) ∧ u4 = .bool ((f.take i).any id) ∧ Hq (Whole wr W.heap.size 4 (bC cur)) ∧ Hq (cur.length = n ∧ ∀ j, j < i → cur[j]? = (orScan false f)[j]?) ∧ Hq (Below W.heap.size W wr))
  case atStart => exact ⟨0, _, by omega, by omega, rfl, rfl, HX, hq ⟨by simp, fun j h => absurd h (Nat.not_lt_zero _)⟩, HB⟩
  case round =>
    obtain ⟨i, cur, hi1, hi2, rfl, rfl, hw, hcur, hb⟩ := hrel
    by_cases hil : i < n
    · have hiz : (i : Int) < (n : Int) := by omega
      have hif : i < f.length := by have := HN.o; omega
      have c0 := HF.o i hif _ hb.o
      have c1 := hw.o.at_ i
      have c2 := hw.o.free i
      rw [bC_at (by have := hcur.o.1; omega)] at c1
      obtain ⟨u1, hu1⟩ : ∃ u1, u1 = cur[i]'(by have := hcur.o.1; omega) := ⟨_, rfl⟩
      rw [← hu1] at c1
      clear hu1
      have HS := hq (any_succ hif)
      have HO := hq (orScan_at f false i hif)
      have HV := hq (fun b : Bool => And.intro ((bC_set cur i b) ▸ hw.o.put i (.bool b)) (hb.o.setCell (p := ⟨W.heap.size, i, none⟩) (Nat.le_refl _) (.bool b)))
      have HNX : Hq (∀ b, (f.take (i + 1)).any id = b → (cur.set i b).length = n ∧ ∀ j, j < i + 1 → (cur.set i b)[j]? = (orScan false f)[j]?) := hq (fun b hbb => ⟨by rw [List.length_set]; exact hcur.o.1, fun j hj => by
        by_cases e : j = i
        · subst e
          rw [List.getElem?_set_self (by have := hcur.o.1; omega), HO.o, ← hbb]; simp
        · rw [List.getElem?_set_ne (fun h => e h.symm)]
          exact hcur.o.2 j (by omega)⟩)
      generalize (f.take i).any id = acc at *
      generalize f[i] = fi at *
      clear HF HX HB hw hcur hb HO HP
      cases acc with
      | true =>
        go_wp2_with fail
        go_roundg (gk - 1)
        case measure => omega
        case rel => exact ⟨i + 1, cur.set i true, by omega, by omega, int_eq (by omega), by rw [HS.o]; rfl, hq (HV.o true).1, hq (HNX.o true (by rw [HS.o]; rfl)), hq (HV.o true).2⟩
      | false =>
        go_wp2_with fail
        go_roundg (gk - 1)
        case measure => omega
        case rel => exact ⟨i + 1, cur.set i fi, by omega, by omega, int_eq (by omega), by rw [HS.o]; rfl, hq (HV.o fi).1, hq (HNX.o fi (by rw [HS.o]; rfl)), hq (HV.o fi).2⟩
    · have hiz : ¬ (i : Int) < (n : Int) := by omega
      have HE : Hq (cur = orScan false f) := hq (List.ext_getElem? fun j => by
        rcases Nat.lt_or_ge j n with hj | hj
        · exact hcur.o.2 j (by omega)
        · rw [List.getElem?_eq_none (by rw [hcur.o.1]; exact hj), List.getElem?_eq_none (by rw [orScan_len, HN.o]; exact hj)])
      have HV := hq (HP.o _ _ (HE.o ▸ hw.o) hb.o)
      clear HF HX HB hw hcur hb HP HE
      go_wp2_with fail
      first | exact HV.o | (go_ret; exact HV.o)
theorem andRow_at (x : Bs) : ∀ (fs : List Bool) (ys : List Bs) (i : Nat) (h1 : i < fs.length) (h2 : i < ys.length), (andRow x fs ys)[i]? = some (fs[i] && (stepAny x || x == ys[i]))
  | [], _, _, h, _ => absurd h (by simp)
  | _ :: _, [], _, _, h => absurd h (by simp)
  | f :: fs, y :: ys, 0, _, _ => by simp [andRow]
  | f :: fs, y :: ys, i + 1, h1, h2 => by
    rw [andRow, List.getElem?_cons_succ, andRow_at x fs ys i (by simpa using h1) (by simpa using h2)]
    simp
set_option maxHeartbeats 2000000 in
set_option maxRecDepth 1000000 in
theorem further2_any (W : World) (g gs gp : Nat) (f : List Bool) (n : Nat) (x : Bs) (r : SRow) (hn : f.length = n) (hr : r.l.length + 1 = n) (h4 : n ≤ 100000) (h : Whole W g 4 (bC f)) (hs : Whole W gs 9 #[.string (st x)]) (hp : Whole W gp 31 #[r.v]) (hrow : r.ok W) :
    Calls Tryz.prog 44 #[.slice (some ⟨g, 0, none⟩) (n : Nat) (n : Nat), .pointer (some ⟨gp, 0, none⟩), .pointer (some ⟨gs, 0, none⟩)] W (StepPost W n (false :: andRow x f r.l)) := by
  have hm := mk_bools n (by omega)
  have HN := hq (And.intro hn hr)
  have HF : Hq (∀ i (hi : i < f.length) wr, Below W.heap.size W wr → wr.cell? ⟨g, i, none⟩ = some (.bool f[i])) := hq (fun i hi wr hb => (h.grow hb).at_ i |>.trans (bC_at hi))
  have HB := hq (below_alloc W (.cells (bC (List.replicate n false)) 4))
  have HX := hq (Whole.made W 4 (bC (List.replicate n false)))
  have HS := hq (fun wr (hb : Below W.heap.size W wr) => (hs.grow hb).at_ 0)
  have HPW := hq (fun wr (hb : Below W.heap.size W wr) => (hp.grow hb).at_ 0)
  have HR := hq (fun wr (hb : Below W.heap.size W wr) => (hrow.grow hb).rd)
  have hle := hrow.le
  have hcp := hrow.cp
  unfold maxLen at hcp
  have HP : Hq (∀ W' g', Whole W' g' 4 (bC (false :: andRow x f r.l)) → Below W.heap.size W W' → StepPost W n (false :: andRow x f r.l) (.returned (.slice (some ⟨g', 0, none⟩) n n)) W') := hq (fun W' g' h1 h2 => ⟨⟨g', rfl, h1⟩, h2⟩)
  generalize StepPost W n (false :: andRow x f r.l) = PP at *
  obtain ⟨o, cap, l⟩ := r
  unfold SRow.v at HPW
  simp only at HPW HR HP HN hle hcp hr
  have c1 := HPW.o _ HB.o
  clear h hn hs hp hrow
  go_enter Tryz.func44, Tryz.ntmps44
  go_wp2_with fail
  clear c1
  go_loopg [6, 7, 13] l.length (fun gk _ _ u wr => ∃ (i : Nat) (cur : List Bool), i + gk ≤ l.length ∧ l.length ≤ i + gk ∧ u = .int .i64 (i : Int) ∧ Hq (Whole wr W.heap.size 4 (bC cur)) ∧ Hq (cur.length = n ∧ ∀ j, j < i + 1 → cur[j]? = (false :: andRow x f l)[j]?) ∧ Hq (Below W.heap.size W wr))
  case atStart => exact ⟨0, _, by omega, by omega, rfl, HX, hq ⟨by simp, fun j h => by
    obtain rfl : j = 0 := by omega
    rw [List.getElem?_replicate, if_pos (by have := HN.o; omega)]; rfl⟩, HB⟩
  case round =>
    obtain ⟨i, cur, hi1, hi2, rfl, hw, hcur, hb⟩ := hrel
    by_cases hil : i < l.length
    · have hiz : (i : Int) < (l.length : Int) := by omega
      have hin : i + 1 < n := by omega
      have hif : i < f.length := by have := HN.o; omega
      have hinz : (i : Int) < (n : Int) := by omega
      have hinz2 : (i : Int) + 1 < (n : Int) := by omega
      have c0 := HF.o i hif _ hb.o
      obtain ⟨b, fo, rfl, c1⟩ := HR.o _ hb.o i hil
      have c2 := HS.o _ hb.o
      have c3 := hw.o.at_ (i + 1)
      have c4 := hw.o.free (i + 1)
      rw [bC_at (by have := hcur.o.1; omega)] at c3
      obtain ⟨u1, hu1⟩ : ∃ u1, u1 = cur[i + 1]'(by have := hcur.o.1; omega) := ⟨_, rfl⟩
      rw [← hu1] at c3
      clear hu1
      have HO := hq (andRow_at x f l i hif hil)
      have HV := hq (fun b : Bool => And.intro ((bC_set cur (i + 1) b) ▸ hw.o.put (i + 1) (.bool b)) (hb.o.setCell (p := ⟨W.heap.size, i + 1, none⟩) (Nat.le_refl _) (.bool b)))
      have HNX : Hq (∀ b, (f[i] && (stepAny x || x == l[i])) = b → (cur.set (i + 1) b).length = n ∧ ∀ j, j < i + 1 + 1 → (cur.set (i + 1) b)[j]? = (false :: andRow x f l)[j]?) := hq (fun b hbb => ⟨by rw [List.length_set]; exact hcur.o.1, fun j hj => by
        by_cases e : j = i + 1
        · subst e
          rw [List.getElem?_set_self (by have := hcur.o.1; omega), List.getElem?_cons_succ, HO.o, ← hbb]
        · rw [List.getElem?_set_ne (fun h => e h.symm)]
          exact hcur.o.2 j (by omega)⟩)
      unfold stepAny at HNX
      generalize f[i] = fi at *
      generalize l[i] = y at *
      clear HF HX HB hw hcur hb HO HP HS HPW HR
      have e5 : ((i + 1 : Nat) : Int) = (i : Int) + 1 := by omega
      cases fi with
      | false =>
        go_wp2_with fail
        go_roundg (gk - 1)
        case measure => omega
        case rel => exact ⟨i + 1, _, by omega, by omega, int_eq (by omega), hq (HV.o false).1, hq (HNX.o false rfl), hq (HV.o false).2⟩
      | true =>
        cases hsa : (x == [42]) with
        | true =>
          have HSA := hq hsa
          go_wp2_with fail
          go_roundg (gk - 1)
          case measure => omega
          case rel => exact ⟨i + 1, _, by omega, by omega, int_eq (by omega), hq (HV.o true).1, hq (HNX.o true (by rw [HSA.o]; rfl)), hq (HV.o true).2⟩
        | false =>
          have HSA := hq hsa
          cases hse : (x == y) with
          | true =>
            have HSE := hq hse
            go_wp2_with fail
            go_roundg (gk - 1)
            case measure => omega
            case rel => exact ⟨i + 1, _, by omega, by omega, int_eq (by omega), hq (HV.o true).1, hq (HNX.o true (by rw [HSA.o, HSE.o]; rfl)), hq (HV.o true).2⟩
          | false =>
            have HSE := hq hse
            go_wp2_with fail
            go_roundg (gk - 1)
            case measure => omega
            case rel => exact ⟨i + 1, _, by omega, by omega, int_eq (by omega), hq (HV.o false).1, hq (HNX.o false (by rw [HSA.o, HSE.o]; rfl)), hq (HV.o false).2⟩
    · have hiz : ¬ (i : Int) < (l.length : Int) := by omega
      have HE : Hq (cur = false :: andRow x f l) := hq (List.ext_getElem? fun j => by
        rcases Nat.lt_or_ge j n with hj | hj
        · exact hcur.o.2 j (by omega)
        · rw [List.getElem?_eq_none (by rw [hcur.o.1]; exact hj), List.getElem?_eq_none (by rw [List.length_cons, andRow_len]; have := HN.o; omega)])
      have HV := hq (HP.o _ _ (HE.o ▸ hw.o) hb.o)
      clear HF HX HB hw hcur hb HP HE HS HPW HR
      go_wp2_with fail
      first | exact HV.o | (go_ret; exact HV.o)
def FurPost (W : World) (x : Bs) (r : SRow) (e : Ending) (W' : World) : Prop := ∃ F caps, e = .returned (.func (.func F) #[] caps) ∧ Below W.heap.size W W' ∧ (∀ xs w, (callFunc F xs).run Tryz.prog w = .ok (.enter F xs) w) ∧
  ∀ WW, Below W'.heap.size W' WW → ∀ g f, f.length = r.l.length + 1 → r.l.length ≤ 1000 → Whole WW g 4 (bC f) → Calls Tryz.prog F (#[.slice (some ⟨g, 0, none⟩) (r.l.length + 1) (r.l.length + 1)] ++ caps) WW (StepPost WW (r.l.length + 1) (rowM r.l x f))
set_option maxHeartbeats 2000000 in
set_option maxRecDepth 1000000 in
theorem further_any (W : World) (x : Bs) (r : SRow) (hrow : r.ok W) :
    Calls Tryz.prog 24 #[.string (st x), r.v] W (FurPost W x r) := by
  have hb1 := below_alloc W (.cells #[.string (st x)] 9)
  have hb2 := below_alloc (W.alloc (.cells #[.string (st x)] 9)) (.cells #[r.v] 31)
  have hb := below_trans hb1 hb2
  have HS := (Whole.made W 9 #[.string (st x)]).grow hb2
  have HPW := Whole.made (W.alloc (.cells #[.string (st x)] 9)) 31 #[r.v]
  rw [World.size_alloc] at HPW
  have hR := hrow.grow hb
  have HP1 : Hq (isRow x = true → FurPost W x r (.returned (.func (.func 43) #[] #[])) ((W.alloc (.cells #[.string (st x)] 9)).alloc (.cells #[r.v] 31))) := hq (fun hx => by
    refine ⟨_, _, rfl, hb, fun xs w => by kernel_rfl, fun WW hw g f hf hl h => ?_⟩
    unfold rowM
    rw [if_pos hx]
    exact further1_any WW g f (r.l.length + 1) hf (by omega) h)
  have HP2 : Hq (¬ isRow x = true → FurPost W x r (.returned (.func (.func 44) #[] #[.pointer (some ⟨W.heap.size + 1, 0, none⟩), .pointer (some ⟨W.heap.size, 0, none⟩)])) ((W.alloc (.cells #[.string (st x)] 9)).alloc (.cells #[r.v] 31))) := hq (fun hx => by
    refine ⟨_, _, rfl, hb, fun xs w => by kernel_rfl, fun WW hw g f hf hl h => ?_⟩
    unfold rowM
    rw [if_neg hx]
    exact further2_any WW g W.heap.size (W.heap.size + 1) f (r.l.length + 1) x r hf rfl (by omega) h (HS.grow hw) (HPW.grow hw) (hR.grow hw))
  have hmf : ∀ fn first cap w, (Instr.makeFunc fn first cap).run Tryz.prog w = .ok (.func fn first cap) w := fun _ _ _ _ => rfl
  have c0 := HS.at_ 0
  have HX := hq (show isRow x = (x == [42, 42]) from rfl)
  generalize FurPost W x r = PP at *
  clear hb1 hb2 hb HPW hR hrow HS
  by_cases hx : isRow x = true
  · have HV := hq (HP1.o hx)
    have e1 : (x == [42, 42]) = true := by rw [← HX.o]; exact hx
    clear HP1 HP2 hx
    go_enter Tryz.func24, Tryz.ntmps24
    go_wp2_with fail
    first | exact HV.o | (go_ret; exact HV.o)
  · have HV := hq (HP2.o hx)
    have e1 : (x == [42, 42]) = false := by rw [← HX.o]; simpa using hx
    clear HP1 HP2 hx
    go_enter Tryz.func24, Tryz.ntmps24
    go_wp2_with fail
    first | exact HV.o | (go_ret; exact HV.o)
def MatchPost (p l : List Bs) (W : World) (e : Ending) (W' : World) : Prop := e = .returned (.bool (matchM p l)) ∧ Below W.heap.size W W'
theorem fits_next {path p : List Bs} {i : Nat} (hi : i < p.length) : fitsM path (p.take (i + 1)) = rowM path p[i] (fitsM path (p.take i)) := by
  unfold fitsM
  rw [List.take_succ_eq_append_getElem hi, List.foldl_append]
  rfl
theorem strs_at {w w' : World} {o : Option Addr} {l : List Bs} (h : StrsIn w o l) (hb : Below w.heap.size w w') {i : Nat} (hi : i < l.length) : ∃ b f, o = some ⟨b, f, none⟩ ∧ w'.cell? ⟨b, f + i, none⟩ = some (.string (st l[i])) := h.grow hb i hi
set_option maxHeartbeats 2000000 in
set_option maxRecDepth 1000000 in
theorem match_any (p r : SRow) (W : World) (hp : p.ok W) (hr : r.ok W) : Calls Tryz.prog 11 #[p.v, r.v] W (MatchPost p.l r.l W) := by
  obtain ⟨po, pcap, pl⟩ := p
  have HPO := hq hp
  have HRO := hq hr
  have hpc := hp.le
  have hpm := hp.cp
  have hrc := hr.le
  have hrm := hr.cp
  unfold maxLen at hpm hrm
  have HP : Hq (∀ b W', matchM pl r.l = b → Below W.heap.size W W' → MatchPost pl r.l W (.returned (.bool b)) W') := hq (fun b W' h1 h2 => ⟨by rw [h1], h2⟩)
  simp only at hpc hpm ⊢
  generalize MatchPost pl r.l W = PP at *
  have HM : Hq (matchM pl r.l = if 200 < pl.length ∨ 200 < r.l.length then false else (fitsM r.l pl).getD r.l.length false) := hq rfl
  have HFU := hq (fun (x : Bs) (WW : World) (hb : Below W.heap.size W WW) => further_any WW x r (hr.grow hb))
  clear hp hr
  by_cases h1 : 200 < pl.length
  · have hz : (200 : Int) < (pl.length : Int) := by omega
    have HV := hq (HP.o false W (by rw [HM.o, if_pos (.inl h1)]) (Below.refl _ _))
    unfold SRow.v
    clear HP HM HFU h1
    go_enter Tryz.func11, Tryz.ntmps11
    go_wp2_with fail
    first | exact HV.o | (go_ret; exact HV.o)
  · have hz : ¬ (200 : Int) < (pl.length : Int) := by omega
    by_cases h2 : 200 < r.l.length
    · have hz2 : (200 : Int) < (r.l.length : Int) := by omega
      have HV := hq (HP.o false W (by rw [HM.o, if_pos (.inr h2)]) (Below.refl _ _))
      unfold SRow.v
      clear HP HM HFU h1 h2
      go_enter Tryz.func11, Tryz.ntmps11
      go_wp2_with fail
      first | exact HV.o | (go_ret; exact HV.o)
    · have hz2 : ¬ (200 : Int) < (r.l.length : Int) := by omega
      have HM2 := hq (HM.o.trans (if_neg (by omega)))
      have hz3 : (0 : Int) < (r.l.length : Int) + 1 := by omega
      have hm : ∀ WW : World, (Instr.makeSlice 52 (.int .i64 ((r.l.length : Int) + 1)) (.int .i64 ((r.l.length : Int) + 1))).run Tryz.prog WW = .ok (.slice (some ⟨WW.heap.size, 0, none⟩) (r.l.length + 1) (r.l.length + 1)) (WW.alloc (.cells (bC (List.replicate (r.l.length + 1) false)) 4)) := fun WW => by
        have := mk_bools (r.l.length + 1) (by omega) WW
        rw [show ((r.l.length + 1 : Nat) : Int) = (r.l.length : Int) + 1 by omega] at this
        exact this
      have hw0 := Whole.made W 4 (bC (List.replicate (r.l.length + 1) false))
      have c0 := hw0.at_ 0
      rw [bC_at (by simp)] at c0
      have c1 := hw0.free 0
      have HX0 : Hq (Whole (W.alloc (.cells ((bC (List.replicate (r.l.length + 1) false)).setIfInBounds 0 (.bool true)) 4)) W.heap.size 4 (bC (fitsM r.l (pl.take 0)))) := hq (by
        have := Whole.made W 4 ((bC (List.replicate (r.l.length + 1) false)).setIfInBounds 0 (.bool true))
        rw [bC_set] at this ⊢
        exact this)
      have HB0 : Hq (Below W.heap.size W (W.alloc (.cells ((bC (List.replicate (r.l.length + 1) false)).setIfInBounds 0 (.bool true)) 4))) := hq (below_alloc W _)
      unfold SRow.v
      unfold SRow.v at HFU
      clear hw0 h1
      go_enter Tryz.func11, Tryz.ntmps11
      go_wp2_with fail
      clear c0 c1
      go_loopg [5, 7, 24] pl.length (fun gk u5 _ u wr => ∃ (i g : Nat), i + gk ≤ pl.length ∧ pl.length ≤ i + gk ∧ u = .int .i64 (i : Int) ∧ u5 = .slice (some ⟨g, 0, none⟩) (r.l.length + 1) (r.l.length + 1) ∧ Hq (Whole wr g 4 (bC (fitsM r.l (pl.take i)))) ∧ Hq (Below W.heap.size W wr))
      case atStart => exact ⟨0, W.heap.size, by omega, by omega, rfl, rfl, HX0, HB0⟩
      case round =>
        obtain ⟨i, g, hi1, hi2, rfl, rfl, hw, hb⟩ := hrel
        clear HX0 HB0
        by_cases hil : i < pl.length
        · have hiz : (i : Int) < (pl.length : Int) := by omega
          obtain ⟨b, fo, rfl, c0⟩ := strs_at HPO.o.rd hb.o hil
          simp only at c0
          have HC := hq (HFU.o pl[i] wr hb.o)
          have HN := hq (@fits_next r.l pl i hil)
          generalize pl[i] = x at *
          clear HFU HPO HRO HM HM2 HP
          go_wp2_with fail
          refine HC.o.mono ?_
          rintro e W2 ⟨F, caps, rfl, hb2, hcf, hC⟩
          have HC2 := hq (hC W2 (Below.refl _ _) g _ (by rw [fitsM_len]) (by omega) (hw.o.grow hb2))
          have HB2 := hq (below_trans hb.o hb2)
          clear hC HC hw hb hb2
          go_wp2_with fail
          refine HC2.o.mono ?_
          rintro e W3 ⟨⟨g', rfl, hw3⟩, hb3⟩
          have HW3 := hq (HN.o ▸ hw3)
          have HB3 := hq (below_trans HB2.o hb3)
          clear hw3 hb3 HC2 HB2
          go_wp2_with fail
          go_roundg (gk - 1)
          case measure => omega
          case rel => exact ⟨i + 1, g', by omega, by omega, int_eq (by omega), rfl, HW3, HB3⟩
        · have hiz : ¬ (i : Int) < (pl.length : Int) := by omega
          have hi : i = pl.length := by omega
          have hw2 := hw.o
          rw [hi, List.take_length] at hw2
          have c0 := hw2.at_ r.l.length
          rw [bC_at (by rw [fitsM_len]; omega)] at c0
          have hln : (r.l.length : Int) < (r.l.length : Int) + 1 := by omega
          have HV := hq (HP.o _ wr.drew (by rw [HM2.o, List.getD_eq_getElem?_getD, List.getElem?_eq_getElem (by rw [fitsM_len]; omega)]) hb.o.drew)
          have HV2 := hq (HP.o _ wr (by rw [HM2.o, List.getD_eq_getElem?_getD, List.getElem?_eq_getElem (by rw [fitsM_len]; omega)]) hb.o)
          clear HFU HPO HRO HM HM2 HP hw hb hw2 hi
          go_wp2_with fail
          first | exact HV.o | exact HV2.o | (go_ret; first | exact HV.o | exact HV2.o)
def pgoodB (p : List Bs) : Bool := decide (p.length ≤ 64) && p.all fun x => (valid (st x)).2
structure RU where
  p : SRow
  k : Bs
def RU.m (r : RU) : List Bs × Bs := (r.p.l, r.k)
def rgoodB (l : List RU) : Bool := decide (l.length ≤ 32) && l.all fun r => (valid (st r.k)).2 && pgoodB r.p.l
def RulesIn (w : World) (o : Option Addr) (l : List RU) : Prop := ∀ i (h : i < l.length), ∃ b f, o = some ⟨b, f, none⟩ ∧ w.cell? ⟨b, f + i * 2, none⟩ = some l[i].p.v ∧ w.cell? ⟨b, f + i * 2 + 1, none⟩ = some (.string (st l[i].k)) ∧ l[i].p.ok w
theorem RulesIn.grow {w w' : World} {o : Option Addr} {l : List RU} (h : RulesIn w o l) (hb : Below w.heap.size w w') : RulesIn w' o l := fun i hi => by
  obtain ⟨b, f, h1, h2, h3, h4⟩ := h i hi
  exact ⟨b, f, h1, (hb.cell (p := ⟨b, f + i * 2, none⟩) (cell_blk h2)).trans h2, (hb.cell (p := ⟨b, f + i * 2 + 1, none⟩) (cell_blk h3)).trans h3, h4.grow hb⟩
def Room (l : List Bs) : Prop := ∀ x ∈ l, x.length ≤ maxLen
structure RulesOk (w : World) (o : Option Addr) (cap : Nat) (l : List RU) : Prop where
  le : l.length ≤ cap
  cp : cap ≤ maxLen
  rd : RulesIn w o l
  km : ∀ r ∈ l, r.k.length ≤ maxLen ∧ Room r.p.l
theorem RulesOk.grow {w w' : World} {o : Option Addr} {cap : Nat} {l : List RU} (h : RulesOk w o cap l) (hb : Below w.heap.size w w') : RulesOk w' o cap l := ⟨h.le, h.cp, h.rd.grow hb, h.km⟩
theorem all_take {α : Type} {l : List α} {i : Nat} (f : α → Bool) (hi : i < l.length) : (l.take (i + 1)).all f = ((l.take i).all f && f l[i]) := by
  rw [List.take_succ_eq_append_getElem hi, List.all_append]
  simp
theorem all_bad {α : Type} {l : List α} {i : Nat} {f : α → Bool} (hi : i < l.length) (h : f l[i] = false) : l.all f = false := by
  rw [List.all_eq_false]
  exact ⟨l[i], List.getElem_mem hi, by simp [h]⟩
def BoolPost (v : Bool) (W : World) (e : Ending) (W' : World) : Prop := e = .returned (.bool v) ∧ Below W.heap.size W W'
set_option maxHeartbeats 2000000 in
set_option maxRecDepth 1000000 in
theorem pright_any (p : SRow) (W : World) (hT : tabs W) (hp : p.ok W) (hm : Room p.l) : Calls Tryz.prog 26 #[p.v] W (BoolPost (pgoodB p.l) W) := by
  obtain ⟨o, cap, l⟩ := p
  have HPO := hq hp
  have hpc := hp.le
  have hpm := hp.cp
  unfold maxLen at hpm
  have HVL := hq (fun x (hx : x ∈ l) WW (hb : Below W.heap.size W WW) => valid_any (st x) WW (tabs_grow hT hb) (by rw [st_size]; exact hm x hx))
  have HP : Hq (∀ b W', pgoodB l = b → Below W.heap.size W W' → BoolPost (pgoodB l) W (.returned (.bool b)) W') := hq (fun b W' h1 h2 => ⟨by rw [h1], h2⟩)
  have HM : Hq (pgoodB l = (decide (l.length ≤ 64) && l.all fun x => (valid (st x)).2)) := hq rfl
  simp only at hpc hpm ⊢
  unfold SRow.v
  generalize BoolPost (pgoodB l) W = PP at *
  clear hp hm hT
  simp only
  by_cases h1 : 64 < l.length
  · have hz : (64 : Int) < (l.length : Int) := by omega
    have HV := hq (HP.o false W (by rw [HM.o, decide_eq_false (by omega)]; rfl) (Below.refl _ _))
    clear HP HM HVL h1
    go_enter Tryz.func26, Tryz.ntmps26
    go_wp2_with fail
    first | exact HV.o | (go_ret; exact HV.o)
  · have hz : ¬ (64 : Int) < (l.length : Int) := by omega
    have HM2 : Hq (pgoodB l = l.all fun x => (valid (st x)).2) := hq (by rw [HM.o, decide_eq_true (by omega)]; rfl)
    clear HM h1
    go_enter Tryz.func26, Tryz.ntmps26
    go_wp2_with fail
    go_loopg [4, 5, 6, 12] l.length (fun gk _ _ _ u wr => ∃ i : Nat, i + gk ≤ l.length ∧ l.length ≤ i + gk ∧ u = .int .i64 (i : Int) ∧ Hq ((l.take i).all (fun x => (valid (st x)).2) = true) ∧ Hq (Below W.heap.size W wr))
    case atStart => exact ⟨0, by omega, by omega, rfl, hq (by simp), hq (Below.refl _ _)⟩
    case round =>
      obtain ⟨i, hi1, hi2, rfl, hall, hb⟩ := hrel
      by_cases hil : i < l.length
      · have hiz : (i : Int) < (l.length : Int) := by omega
        obtain ⟨b, f, rfl, c0⟩ := strs_at HPO.o.rd hb.o hil
        simp only at c0
        have HC := hq (HVL.o l[i] (List.getElem_mem hil) wr hb.o)
        have HT := hq (all_take (fun x => (valid (st x)).2) hil)
        have HBD := hq (@all_bad _ l i (fun x => (valid (st x)).2) hil)
        generalize l[i] = x at *
        generalize hV : valid (st x) = V at *
        obtain ⟨vn, vb⟩ := V
        simp only at HC HT HBD
        clear HVL hV HPO
        cases vb with
        | true =>
          clear HP HBD
          go_wp2_with fail
          refine HC.o.mono ?_
          rintro e W2 ⟨rfl, hb2⟩
          have HB2 := hq (below_trans hb.o hb2)
          clear HC hb hb2
          go_wp2_with fail
          go_roundg (gk - 1)
          case measure => omega
          case rel => exact ⟨i + 1, by omega, by omega, int_eq (by omega), hq (by rw [HT.o, hall.o]; rfl), HB2⟩
        | false =>
          have HV := hq (fun W2 hb2 => HP.o false W2 (by rw [HM2.o]; exact HBD.o rfl) (below_trans hb.o hb2))
          clear HP HBD HT hb
          go_wp2_with fail
          refine HC.o.mono ?_
          rintro e W2 ⟨rfl, hb2⟩
          have HV2 := hq (HV.o _ hb2)
          clear HC HV hb2
          go_wp2_with fail
          first | exact HV2.o | (go_ret; exact HV2.o)
      · have hiz : ¬ (i : Int) < (l.length : Int) := by omega
        have HV := hq (HP.o true wr (by rw [HM2.o]; have := hall.o; rwa [List.take_of_length_le (by omega)] at this) hb.o)
        clear HP HVL HPO hall hb
        go_wp2_with fail
        first | exact HV.o | (go_ret; exact HV.o)
set_option maxHeartbeats 2000000 in
set_option maxRecDepth 1000000 in
theorem rulright_any (o : Option Addr) (cap : Nat) (l : List RU) (W : World) (hT : tabs W) (h : RulesOk W o cap l) : Calls Tryz.prog 14 #[.slice o l.length cap] W (BoolPost (rgoodB l) W) := by
  have HRU := hq h
  have hpc := h.le
  have hpm := h.cp
  unfold maxLen at hpm
  have HVL := hq (fun (r : RU) (hr : r ∈ l) WW (hb : Below W.heap.size W WW) => valid_any (st r.k) WW (tabs_grow hT hb) (by rw [st_size]; exact (h.km r hr).1))
  have HPR := hq (fun (r : RU) (hr : r ∈ l) WW (hb : Below W.heap.size W WW) (hp : r.p.ok WW) => pright_any r.p WW (tabs_grow hT hb) hp (h.km r hr).2)
  have HP : Hq (∀ b W', rgoodB l = b → Below W.heap.size W W' → BoolPost (rgoodB l) W (.returned (.bool b)) W') := hq (fun b W' h1 h2 => ⟨by rw [h1], h2⟩)
  have HM : Hq (rgoodB l = (decide (l.length ≤ 32) && l.all fun r => (valid (st r.k)).2 && pgoodB r.p.l)) := hq rfl
  generalize BoolPost (rgoodB l) W = PP at *
  clear h hT
  by_cases h1 : 32 < l.length
  · have hz : (32 : Int) < (l.length : Int) := by omega
    have HV := hq (HP.o false W (by rw [HM.o, decide_eq_false (by omega)]; rfl) (Below.refl _ _))
    clear HP HM HVL h1 HRU HPR
    go_enter Tryz.func14, Tryz.ntmps14
    go_wp2_with fail
    first | exact HV.o | (go_ret; exact HV.o)
  · have hz : ¬ (32 : Int) < (l.length : Int) := by omega
    have HM2 : Hq (rgoodB l = l.all fun r => (valid (st r.k)).2 && pgoodB r.p.l) := hq (by rw [HM.o, decide_eq_true (by omega)]; rfl)
    clear HM h1
    go_enter Tryz.func14, Tryz.ntmps14
    go_wp2_with fail
    go_loopg [4, 5, 6, 12] l.length (fun gk _ _ _ u wr => ∃ i : Nat, i + gk ≤ l.length ∧ l.length ≤ i + gk ∧ u = .int .i64 (i : Int) ∧ Hq ((l.take i).all (fun r => (valid (st r.k)).2 && pgoodB r.p.l) = true) ∧ Hq (Below W.heap.size W wr))
    case atStart => exact ⟨0, by omega, by omega, rfl, hq (by simp), hq (Below.refl _ _)⟩
    case round =>
      obtain ⟨i, hi1, hi2, rfl, hall, hb⟩ := hrel
      by_cases hil : i < l.length
      · have hiz : (i : Int) < (l.length : Int) := by omega
        obtain ⟨b, f, rfl, c0, c1, hok⟩ := HRU.o.rd.grow hb.o i hil
        have HC := hq (HVL.o l[i] (List.getElem_mem hil))
        have HPC := hq (HPR.o l[i] (List.getElem_mem hil))
        have HT := hq (all_take (fun r : RU => (valid (st r.k)).2 && pgoodB r.p.l) hil)
        have HBD := hq (@all_bad _ l i (fun r : RU => (valid (st r.k)).2 && pgoodB r.p.l) hil)
        have HOK := hq hok
        generalize l[i] = r at *
        obtain ⟨⟨po, pc, pl⟩, k⟩ := r
        simp only at HC HPC HT HBD c0 c1 HOK
        unfold SRow.v at c0 HPC
        simp only at c0 HPC
        have hb2 := below_alloc wr (.cells #[.slice po pl.length pc, .string (st k)] 33)
        have HX := hq (Whole.made wr 33 #[.slice po pl.length pc, .string (st k)])
        have HB2 := hq (below_trans hb.o hb2)
        have HOK2 := hq (HOK.o.grow hb2)
        have HCC := hq (HC.o _ HB2.o)
        have x0 := HX.o.at_ 0
        have x1 := HX.o.at_ 1
        clear HVL HPR HRU hok HOK HC hb2 hb
        generalize hV : valid (st k) = V at *
        obtain ⟨vn, vb⟩ := V
        simp only at HCC HT HBD
        clear hV
        go_upto_region 6 with fail
        generalize wr.alloc (.cells #[.slice po pl.length pc, .string (st k)] 33) = w1 at *
        generalize wr.heap.size = gB at *
        clear c0 c1
        go_wp2_with fail
        refine HCC.o.mono ?_
        rintro e W2 ⟨rfl, hb3⟩
        have x2 := (HX.o.grow hb3).at_ 0
        have HB3 := hq (below_trans HB2.o hb3)
        have HPC2 := hq (HPC.o _ HB3.o (HOK2.o.grow hb3))
        clear HCC HPC hb3 HB2 HOK2 HX x0 x1
        cases vb with
        | false =>
          have HV := hq (HP.o false W2 (by rw [HM2.o]; exact HBD.o rfl) HB3.o)
          clear HP HBD HT HB3 HPC2
          go_wp2_with fail
          first | exact HV.o | (go_ret; exact HV.o)
        | true =>
          go_wp2_with fail
          refine HPC2.o.mono ?_
          rintro e W4 ⟨rfl, hb4⟩
          have HB4 := hq (below_trans HB3.o hb4)
          clear HPC2 hb4 HB3
          generalize pgoodB pl = pb at *
          cases pb with
          | true =>
            clear HP HBD
            go_wp2_with fail
            go_roundg (gk - 1)
            case measure => omega
            case rel => exact ⟨i + 1, by omega, by omega, int_eq (by omega), hq (by rw [HT.o, hall.o]; rfl), HB4⟩
          | false =>
            have HV := hq (HP.o false W4 (by rw [HM2.o]; exact HBD.o rfl) HB4.o)
            clear HP HBD HT HB4
            go_wp2_with fail
            first | exact HV.o | (go_ret; exact HV.o)
      · have hiz : ¬ (i : Int) < (l.length : Int) := by omega
        have HV := hq (HP.o true wr (by rw [HM2.o]; have := hall.o; rwa [List.take_of_length_le (by omega)] at this) hb.o)
        clear HP HVL HPR HRU hall hb
        go_wp2_with fail
        first | exact HV.o | (go_ret; exact HV.o)
theorem bl_irr : ∀ x : Bs, Op.bytesLess x x = false
  | [] => rfl
  | a :: x => by
    unfold Op.bytesLess
    simp [bl_irr x]
theorem take_eq {a b : List Bs} {k : Nat} (ha : k < a.length) (hb : k < b.length) (h : a.take k = b.take k) (e : a[k] = b[k]) : a.take (k + 1) = b.take (k + 1) := by
  rw [List.take_succ_eq_append_getElem ha, List.take_succ_eq_append_getElem hb, h, e]
theorem ne_atS {a b : List Bs} {k : Nat} (ha : k < a.length) (hb : k < b.length) (e : a[k] ≠ b[k]) : a ≠ b := fun h => by subst h; exact e rfl
def CompPost (la lb : List Bs) (w : World) (e : Ending) (w' : World) : Prop := (∃ c : Int, e = .returned (.int .i64 c) ∧ (c = 0 ↔ la = lb)) ∧ Below w.heap.size w w'
set_option maxHeartbeats 1000000 in
set_option maxRecDepth 1000000 in
theorem rcomp_any (o o' : Option Addr) (cap cap' : Nat) (la lb : List Bs) (w : World) (hl : la.length ≤ cap) (hc : cap ≤ maxLen) (hin : StrsIn w o la) (_hl' : lb.length ≤ cap') (_hc' : cap' ≤ maxLen) (hin' : StrsIn w o' lb) :
    Calls Tryz.prog 42 #[.slice o la.length cap, .slice o' lb.length cap'] w (CompPost la lb w) := by
  have HA := hq hin
  have HB := hq hin'
  unfold maxLen at hc _hc'
  clear hin hin'
  have HP : Hq (∀ (c : Int) w', (c = 0 ↔ la = lb) → Below w.heap.size w w' → CompPost la lb w (.returned (.int .i64 c)) w') := hq (fun c w' h1 h2 => ⟨⟨c, rfl, h1⟩, h2⟩)
  generalize CompPost la lb w = PP at *
  go_enter Tryz.func42, Tryz.ntmps42
  go_wp2_with fail
  go_loopw [5] (fun i wr => ∃ k : Nat, k ≤ la.length ∧ k ≤ lb.length ∧ i = .int .i64 (k : Int) ∧ Hq (la.take k = lb.take k) ∧ Hq (Below w.heap.size w wr)) (fun i _ => la.length - (intOf i).toNat)
  case atStart => exact ⟨0, Nat.zero_le _, Nat.zero_le _, rfl, hq rfl, hq (Below.refl _ _)⟩
  case round =>
    obtain ⟨k, hk, hk', rfl, ht, hb⟩ := hrel
    by_cases h : k < la.length
    · by_cases h2 : k < lb.length
      · have hkz : (k : Int) < (la.length : Int) := by omega
        have hkz2 : (k : Int) < (lb.length : Int) := by omega
        obtain ⟨b, f, rfl, hcell⟩ := HA.o k h
        obtain ⟨b', f', rfl, hcell'⟩ := HB.o k h2
        have c0 := (hb.o.cell (cell_blk hcell)).trans hcell
        have c1 := (hb.o.cell (cell_blk hcell')).trans hcell'
        have HN := hq (take_eq h h2 ht.o)
        have HE := hq (@ne_atS la lb k h h2)
        clear hcell hcell' ht HA HB
        generalize la[k] = x at *
        generalize lb[k] = y at *
        cases h3 : Op.bytesLess x y with
        | true =>
          have hne : x ≠ y := fun e => by subst e; rw [bl_irr] at h3; cases h3
          have HV := hq (HP.o (-1) wr.drew ⟨fun e => by omega, fun e => absurd e (HE.o hne)⟩ hb.o.drew)
          clear HN HE HP hne
          go_wp2_with fail
          go_region
          go_wp2_with fail
          exact HV.o
        | false =>
          by_cases hne : x = y
          case neg =>
            have e5 : (x == y) = false := beq_eq_false_iff_ne.2 hne
            have HV := hq (HP.o 1 wr.drew.drew ⟨fun e => by omega, fun e => absurd e (HE.o hne)⟩ hb.o.drew.drew)
            clear HN HE HP hne
            go_wp2_with fail
            go_region
            go_wp2_with fail
            go_region
            go_wp2_with fail
            exact HV.o
          case pos =>
            have e5 : (x == y) = true := beq_iff_eq.2 hne
            have HN2 := hq (HN.o hne)
            clear HN HE HP hne
            go_wp2_with fail
            go_region
            go_wp2_with fail
            go_region
            go_wp2_with fail
            go_roundw
            case rel => exact ⟨k + 1, h, h2, int_eq (by omega), HN2, hq hb.o.drew.drew⟩
            case measure => simp [intOf]; omega
      · have hkz : (k : Int) < (la.length : Int) := by omega
        have hkz2 : ¬ (k : Int) < (lb.length : Int) := by omega
        have hgt : (lb.length : Int) < (la.length : Int) := by omega
        have hlt : ¬ (la.length : Int) < (lb.length : Int) := by omega
        have hgtn : lb.length < la.length := by omega
        have HV := hq (HP.o 1 wr ⟨fun e => by omega, fun e => by rw [e] at hgtn; omega⟩ hb.o)
        clear ht HP
        go_wp2_with fail
        exact HV.o
    · have hkz : ¬ (k : Int) < (la.length : Int) := by omega
      obtain rfl : k = la.length := by omega
      by_cases h2 : la.length < lb.length
      · have hlt : (la.length : Int) < (lb.length : Int) := by omega
        have HV := hq (HP.o (-1) wr ⟨fun e => by omega, fun e => by rw [e] at h2; omega⟩ hb.o)
        clear ht HP
        go_wp2_with fail
        exact HV.o
      · have hlt : ¬ (la.length : Int) < (lb.length : Int) := by omega
        have hgt : ¬ (lb.length : Int) < (la.length : Int) := by omega
        have hgtn : ¬ lb.length < la.length := by omega
        have HV := hq (HP.o 0 wr ⟨fun _ => by
          have := ht.o
          rw [List.take_length, List.take_of_length_le (by omega)] at this
          exact this, fun _ => rfl⟩ hb.o)
        clear ht HP
        go_wp2_with fail
        exact HV.o
set_option maxHeartbeats 1000000 in
set_option maxRecDepth 1000000 in
theorem rsame_any (o o' : Option Addr) (cap cap' : Nat) (la lb : List Bs) (w : World) (hl : la.length ≤ cap) (hc : cap ≤ maxLen) (hin : StrsIn w o la) (hl' : lb.length ≤ cap') (hc' : cap' ≤ maxLen) (hin' : StrsIn w o' lb) :
    Calls Tryz.prog 23 #[.slice o la.length cap, .slice o' lb.length cap'] w fun e w' => e = .returned (.bool (decide (la = lb))) ∧ Below w.heap.size w w' := by
  have HC := hq (rcomp_any o o' cap cap' la lb w hl hc hin hl' hc' hin')
  clear hin hin'
  go_enter Tryz.func23, Tryz.ntmps23
  go_wp2_with fail
  refine HC.o.mono ?_
  rintro e w1 ⟨⟨c, rfl, hce⟩, hb1⟩
  have HB1 := hq hb1
  clear HC hb1
  by_cases h0 : c = 0
  · have HV : Hq (decide (la = lb) = true) := hq (decide_eq_true (hce.1 h0))
    subst h0
    clear hce
    go_wp2_with fail
    go_ret
    exact ⟨by show Ending.returned (Value.bool true) = _; rw [HV.o], HB1.o⟩
  · have HV : Hq (decide (la = lb) = false) := hq (decide_eq_false (fun e => h0 (hce.2 e)))
    have e1 : (c == 0) = false := beq_eq_false_iff_ne.2 h0
    clear hce
    go_wp2_with fail
    go_ret
    exact ⟨by show Ending.returned (Value.bool false) = _; rw [HV.o], HB1.o⟩
structure ShortL (l : List Bs) : Prop where
  len : l.length ≤ 200
  each : ∀ x ∈ l, x.length ≤ 1024
def ShortPost (l : List Bs) (w : World) (e : Ending) (w' : World) : Prop := (∃ v : Bool, e = .returned (.bool v) ∧ (v = true → ShortL l)) ∧ w' = w
set_option maxHeartbeats 1000000 in
set_option maxRecDepth 1000000 in
theorem short_any (o : Option Addr) (cap : Nat) (l : List Bs) (w : World) (_hl : l.length ≤ cap) (_hc : cap ≤ maxLen) (hin : StrsIn w o l) (hs : ∀ x ∈ l, x.length ≤ maxLen) :
    Calls Tryz.prog 13 #[.slice o l.length cap] w (ShortPost l w) := by
  have HIN := hq hin
  have HS := hq hs
  unfold maxLen at _hc
  clear hin hs
  have HP : Hq (∀ (v : Bool), (v = true → ShortL l) → ShortPost l w (.returned (.bool v)) w) := hq (fun v h1 => ⟨⟨v, rfl, h1⟩, rfl⟩)
  generalize ShortPost l w = PP at *
  go_enter Tryz.func13, Tryz.ntmps13
  go_wp2_with fail
  go_loop [3] (fun i => ∃ k : Nat, k ≤ l.length ∧ k ≤ 300 ∧ i = .int .i64 (k : Int) ∧ Hq (∀ a (ha : a < l.length), a < k → l[a].length ≤ 1024)) (fun i => l.length - (intOf i).toNat)
  case atStart => exact ⟨0, Nat.zero_le _, Nat.zero_le _, rfl, hq (fun a _ h0 => absurd h0 (Nat.not_lt_zero _))⟩
  case round =>
    obtain ⟨k, hk, hk3, rfl, hp⟩ := hrel
    by_cases h : k < l.length
    · by_cases h3 : k < 300
      · have hkz : (k : Int) < (l.length : Int) := by omega
        have hkz3 : (k : Int) < 300 := by omega
        obtain ⟨b, f, rfl, hcell⟩ := HIN.o k h
        have hx := HS.o l[k] (List.getElem_mem h)
        have HN : Hq (l[k].length ≤ 1024 → ∀ a (ha : a < l.length), a < k + 1 → l[a].length ≤ 1024) := hq (fun h1 a ha h2 => by
          by_cases e : a = k
          · subst e; exact h1
          · exact hp.o a ha (by omega))
        unfold maxLen at hx
        clear hp HIN HS
        generalize l[k] = x at *
        by_cases h4 : x.length ≤ 1024
        · have h4z : ¬ (1024 : Int) < (x.length : Int) := by omega
          have HN2 := hq (HN.o h4)
          clear HN
          go_wp2_with fail
          go_round
          case rel => exact ⟨k + 1, h, h3, int_eq (by omega), HN2⟩
          case measure => simp [intOf]; omega
        · have h4z : (1024 : Int) < (x.length : Int) := by omega
          have HV := hq (HP.o false (fun h => by cases h))
          clear HN HP
          go_wp2_with fail
          exact HV.o
      · obtain rfl : k = 300 := by omega
        have h200 : ¬ (l.length : Int) ≤ 200 := by omega
        have hd : decide ((l.length : Int) ≤ 200) = false := decide_eq_false h200
        have HV := hq (HP.o false (fun h => by cases h))
        clear hp HP
        go_wp2_with fail
        exact HV.o
    · have hkz : ¬ (k : Int) < (l.length : Int) := by omega
      by_cases h200 : l.length ≤ 200
      · have hd : decide ((l.length : Int) ≤ 200) = true := decide_eq_true (by omega)
        have hz : (l.length : Int) ≤ 200 := by omega
        have HV := hq (HP.o true (fun _ => ⟨h200, fun x hx => by
          obtain ⟨i, hi, rfl⟩ := List.mem_iff_getElem.1 hx
          exact hp.o i hi (by omega)⟩))
        clear hp HP
        go_wp2_with fail
        exact HV.o
      · have hz : ¬ (l.length : Int) ≤ 200 := by omega
        have hd : decide ((l.length : Int) ≤ 200) = false := decide_eq_false hz
        have HV := hq (HP.o false (fun h => by cases h))
        clear hp HP
        go_wp2_with fail
        exact HV.o
end Go.Proofs.YtmadgdafgkleiaaGreatDoor

