/-
  WALKS: scarflaw18.Few; scarfref18.Same.
-/
import Derived.Test.YtmadgdafgkleiaaGreatDoorRuF
import Derived.BigQuiet
import Derived.Deep.RegionHeld3
namespace Go.Proofs.YtmadgdafgkleiaaGreatDoor
open Go.RowKit
structure FewL (l : List RU) : Prop where
  len : l.length ≤ 60
  each : ∀ r ∈ l, ShortL r.p.l ∧ r.k.length ≤ 1024
def RFewPost (l : List RU) (w : World) (e : Ending) (w' : World) : Prop := (∃ v : Bool, e = .returned (.bool v) ∧ (v = true → FewL l)) ∧ w' = w
set_option maxHeartbeats 2000000 in
set_option maxRecDepth 1000000 in
theorem rufew_any (o : Option Addr) (cap : Nat) (l : List RU) (w : World) (h : RulesOk w o cap l) : Calls Tryz.prog 5 #[.slice o l.length cap] w (RFewPost l w) := by
  have HRU := hq h
  have hpc := h.le
  have hpm := h.cp
  unfold maxLen at hpm
  have HSH := hq (fun (r : RU) (hr : r ∈ l) (hp : r.p.ok w) => short_any r.p.o r.p.cap r.p.l w hp.le hp.cp hp.rd (h.km r hr).2)
  have HKM := hq (fun (r : RU) (hr : r ∈ l) => (h.km r hr).1)
  have HP : Hq (∀ (v : Bool), (v = true → FewL l) → RFewPost l w (.returned (.bool v)) w) := hq (fun v h1 => ⟨⟨v, rfl, h1⟩, rfl⟩)
  clear h
  generalize RFewPost l w = PP at *
  go_enter Tryz.func5, Tryz.ntmps5
  go_wp2_with fail
  go_loop [3, 4] (fun i _ => ∃ k : Nat, k ≤ l.length ∧ k ≤ 100 ∧ i = .int .i64 (k : Int) ∧ Hq (∀ a (ha : a < l.length), a < k → ShortL l[a].p.l ∧ l[a].k.length ≤ 1024)) (fun i _ => l.length - (intOf i).toNat)
  case atStart => exact ⟨0, Nat.zero_le _, Nat.zero_le _, rfl, hq (fun a _ h0 => absurd h0 (Nat.not_lt_zero _))⟩
  case round =>
    obtain ⟨k, hk, hk3, rfl, hp⟩ := hrel
    by_cases h : k < l.length
    · by_cases h3 : k < 100
      · have hkz : (k : Int) < (l.length : Int) := by omega
        have hkz3 : (k : Int) < 100 := by omega
        obtain ⟨b, f, rfl, c0, c1, hok⟩ := HRU.o.rd k h
        have HC := hq (HSH.o l[k] (List.getElem_mem h) hok)
        have hx := HKM.o l[k] (List.getElem_mem h)
        have HN : Hq (ShortL l[k].p.l ∧ l[k].k.length ≤ 1024 → ∀ a (ha : a < l.length), a < k + 1 → ShortL l[a].p.l ∧ l[a].k.length ≤ 1024) := hq (fun h1 a ha h2 => by
          by_cases e : a = k
          · subst e; exact h1
          · exact hp.o a ha (by omega))
        unfold maxLen at hx
        clear hp HSH HRU hok HKM
        generalize l[k] = x at *
        obtain ⟨⟨po, pc, pl⟩, ky⟩ := x
        unfold SRow.v at c0
        simp only at c0 c1 hx HN HC
        go_wp2_with fail
        refine HC.o.mono ?_
        rintro e w2 ⟨⟨v, rfl, hv⟩, hw⟩
        obtain rfl := hw.symm
        cases v with
        | false =>
          have HV := hq (HP.o false (fun h => by cases h))
          clear HN HP HC hv
          go_wp2_with fail
          first | exact HV.o | (go_ret; exact HV.o)
        | true =>
          by_cases h4 : ky.length ≤ 1024
          · have h4z : ¬ (1024 : Int) < (ky.length : Int) := by omega
            have HN2 := hq (HN.o ⟨hv rfl, h4⟩)
            clear HN HC hv
            go_wp2_with fail
            go_round
            case rel => exact ⟨k + 1, h, h3, int_eq (by omega), HN2⟩
            case measure => simp [intOf]; omega
          · have h4z : (1024 : Int) < (ky.length : Int) := by omega
            have HV := hq (HP.o false (fun h => by cases h))
            clear HN HP HC hv
            go_wp2_with fail
            first | exact HV.o | (go_ret; exact HV.o)
      · obtain rfl : k = 100 := by omega
        have h60 : ¬ (l.length : Int) ≤ 60 := by omega
        have hd : decide ((l.length : Int) ≤ 60) = false := decide_eq_false h60
        have HV := hq (HP.o false (fun h => by cases h))
        clear hp HP HSH HKM HRU
        go_wp2_with fail
        first | exact HV.o | (go_ret; exact HV.o)
    · have hkz : ¬ (k : Int) < (l.length : Int) := by omega
      by_cases h60 : l.length ≤ 60
      · have hd : decide ((l.length : Int) ≤ 60) = true := decide_eq_true (by omega)
        have hz : (l.length : Int) ≤ 60 := by omega
        have HV := hq (HP.o true (fun _ => ⟨h60, fun x hx => by
          obtain ⟨i, hi, rfl⟩ := List.mem_iff_getElem.1 hx
          exact hp.o i hi (by omega)⟩))
        clear hp HP HSH HKM HRU
        go_wp2_with fail
        first | exact HV.o | (go_ret; exact HV.o)
      · have hz : ¬ (l.length : Int) ≤ 60 := by omega
        have hd : decide ((l.length : Int) ≤ 60) = false := decide_eq_false hz
        have HV := hq (HP.o false (fun h => by cases h))
        clear hp HP HSH HKM HRU
        go_wp2_with fail
        first | exact HV.o | (go_ret; exact HV.o)
theorem map_snoc_eq {l l' : List RU} {i : Nat} (h : i < l.length) (h' : i < l'.length) (e : (l.take i).map RU.m = (l'.take i).map RU.m) (e2 : l[i].m = l'[i].m) : (l.take (i + 1)).map RU.m = (l'.take (i + 1)).map RU.m := by
  rw [List.take_succ_eq_append_getElem h, List.take_succ_eq_append_getElem h', List.map_append, List.map_append, e]
  simp only [List.map_cons, List.map_nil, e2]
theorem map_ne_at {l l' : List RU} {i : Nat} (h : i < l.length) (h' : i < l'.length) (e2 : l[i].m ≠ l'[i].m) : l.map RU.m ≠ l'.map RU.m := fun e => by
  have h1 : (l.map RU.m)[i]? = (l'.map RU.m)[i]? := by rw [e]
  rw [List.getElem?_map, List.getElem?_map, List.getElem?_eq_getElem h, List.getElem?_eq_getElem h'] at h1
  exact e2 (Option.some.inj h1)
theorem below_drawnQ {B : Nat} {a w : World} (h : Below B a w) (n : Nat) : Below B a (w.drewN n) := ⟨h.os, h.tape, h.output, h.size, h.block⟩
theorem read_rul {w V V' : World} {a b c d : Addr} {x y z u : Value} (h : Below w.heap.size w V ∧ V.cell? a = some x ∧ V.cell? b = some y ∧ V.cell? c = some z ∧ V.cell? d = some u) (hb : Below V.heap.size V V') :
    Below w.heap.size w V' ∧ V'.cell? a = some x ∧ V'.cell? b = some y ∧ V'.cell? c = some z ∧ V'.cell? d = some u :=
  ⟨below_trans h.1 hb, (hb.cell (cell_blk h.2.1)).trans h.2.1, (hb.cell (cell_blk h.2.2.1)).trans h.2.2.1, (hb.cell (cell_blk h.2.2.2.1)).trans h.2.2.2.1, (hb.cell (cell_blk h.2.2.2.2)).trans h.2.2.2.2⟩
set_option maxHeartbeats 4000000 in
set_option maxRecDepth 1000000 in
theorem rsameR_any (o o' : Option Addr) (cap cap' : Nat) (l l' : List RU) (W : World) (h : RulesOk W o cap l) (h' : RulesOk W o' cap' l') :
    Calls Tryz.prog 10 #[.slice o l.length cap, .slice o' l'.length cap'] W (BoolPost (decide (l.map RU.m = l'.map RU.m)) W) := by
  have HRU := hq h
  have HRV := hq h'
  have hpc := h.le
  have hpm := h.cp
  have hpc' := h'.le
  have hpm' := h'.cp
  unfold maxLen at hpm hpm'
  have HP : Hq (∀ (b : Bool) W', (b = true ↔ l.map RU.m = l'.map RU.m) → Below W.heap.size W W' → BoolPost (decide (l.map RU.m = l'.map RU.m)) W (.returned (.bool b)) W') := hq (fun b W' h1 h2 => ⟨by
    cases b with
    | true => rw [decide_eq_true (h1.1 rfl)]
    | false => rw [decide_eq_false (fun e => by have := h1.2 e; cases this)], h2⟩)
  generalize BoolPost (decide (l.map RU.m = l'.map RU.m)) W = PP at *
  clear h h'
  by_cases hlen : l.length = l'.length
  case neg =>
    have hz : ((l.length : Int) == (l'.length : Int)) = false := beq_eq_false_iff_ne.2 (by omega)
    have HV := hq (HP.o false W ⟨fun h => (by cases h), fun e => absurd (by have := congrArg List.length e; simpa using this) hlen⟩ (Below.refl _ _))
    clear HP HRU HRV hlen
    go_enter Tryz.func10, Tryz.ntmps10
    go_wp2_with fail
    first | exact HV.o | (go_ret; exact HV.o)
  case pos =>
    have hz : ((l.length : Int) == (l'.length : Int)) = true := beq_iff_eq.2 (by omega)
    have HLEN := hq hlen
    clear hlen
    go_enter Tryz.func10, Tryz.ntmps10
    go_wp2_with fail
    have hz2 : ((l.length : Int) != (l'.length : Int)) = false := by rw [bne, hz]; rfl
    rw [hz2]
    clear hz hz2
    go_loopw [5] (fun i wr => ∃ k : Nat, k ≤ l.length ∧ i = .int .i64 (k : Int) ∧ Hq ((l.take k).map RU.m = (l'.take k).map RU.m) ∧ Hq (Below W.heap.size W wr)) (fun i _ => l.length - (intOf i).toNat)
    case atStart => exact ⟨0, Nat.zero_le _, rfl, hq rfl, hq (Below.refl _ _)⟩
    case round =>
      obtain ⟨k, hk, rfl, ht, hb⟩ := hrel
      by_cases hkl : k < l.length
      · have hkl' : k < l'.length := by have := HLEN.o; omega
        have hkz : (k : Int) < (l.length : Int) := by omega
        have hkz' : (k : Int) < (l'.length : Int) := by omega
        obtain ⟨b, f, rfl, c0, c1, hok⟩ := HRU.o.rd.grow hb.o k hkl
        obtain ⟨b', f', rfl, d0, d1, hok'⟩ := HRV.o.rd.grow hb.o k hkl'
        have HN := hq (map_snoc_eq hkl hkl' ht.o)
        have HE := hq (@map_ne_at l l' k hkl hkl')
        have HOK := hq hok
        have HOK' := hq hok'
        clear ht HRU HRV hok hok'
        generalize l[k] = x at *
        generalize l'[k] = y at *
        obtain ⟨⟨po, pc, pl⟩, ky⟩ := x
        obtain ⟨⟨qo, qc, ql⟩, kz⟩ := y
        unfold SRow.v at c0 d0
        unfold RU.m at HN HE
        simp only at c0 c1 d0 d1 HN HE HOK HOK'
        by_cases hkey : ky = kz
        case neg =>
          have e1 : (ky == kz) = false := beq_eq_false_iff_ne.2 hkey
          have HV := hq (fun n => HP.o false (wr.drewN n) ⟨fun h => (by cases h), fun e => absurd e (HE.o (fun e2 => hkey (Prod.mk.inj e2).2))⟩ (below_drawnQ hb.o n))
          clear HN HE HP HOK HOK' hkey HLEN
          go_wp2_with fail
          go_quiet (fail)
          go_wp2_with fail
          exact HV.o _
        case pos =>
          subst hkey
          have e1 : (ky == ky) = true := beq_self_eq_true ky
          have HC := hq (fun WW (hbb : Below wr.heap.size wr WW) => rsame_any po qo pc qc pl ql WW HOK.o.le HOK.o.cp (HOK.o.rd.grow hbb) HOK'.o.le HOK'.o.cp (HOK'.o.rd.grow hbb))
          go_upto_region 6 with fail
          go_region_held3 (fun V => Below wr.heap.size wr V ∧ V.cell? ⟨b, f + k * 2, none⟩ = some (.slice po pl.length pc) ∧ V.cell? ⟨b, f + k * 2 + 1, none⟩ = some (.string (st ky)) ∧ V.cell? ⟨b', f' + k * 2, none⟩ = some (.slice qo ql.length qc) ∧ V.cell? ⟨b', f' + k * 2 + 1, none⟩ = some (.string (st ky)))
            (first | exact ⟨(Below.refl _ _).drew, c0, c1, d0, d1⟩ | exact hT2)
            ((go_at_call 23; refine (HC.o _ (And.left (by assumption))).mono ?_; rintro e' w9 ⟨rfl, hb9⟩; have hT2 : Below wr.heap.size wr w9 ∧ w9.cell? ⟨b, f + k * 2, none⟩ = some (.slice po pl.length pc) ∧ w9.cell? ⟨b, f + k * 2 + 1, none⟩ = some (.string (st ky)) ∧ w9.cell? ⟨b', f' + k * 2, none⟩ = some (.slice qo ql.length qc) ∧ w9.cell? ⟨b', f' + k * 2 + 1, none⟩ = some (.string (st ky)) := read_rul (by assumption) hb9))
          have HB9 := hq (below_trans hb.o hT2.1)
          clear hT2 HC HOK HOK' c0 c1 d0 d1 hb
          by_cases hpq : pl = ql
          · have hd : decide (pl = ql) = true := decide_eq_true hpq
            have HN2 := hq (HN.o (by rw [hpq]))
            rw [hd]
            clear hd
            clear HN HE HP hpq
            go_wp2_with fail
            go_roundw
            case rel => exact ⟨k + 1, hkl, int_eq (by omega), HN2, HB9⟩
            case measure => simp [intOf]; omega
          · have hd : decide (pl = ql) = false := decide_eq_false hpq
            have HV := hq (HP.o false _ ⟨fun h => (by cases h), fun e => absurd e (HE.o (fun e2 => hpq (Prod.mk.inj e2).1))⟩ HB9.o)
            rw [hd]
            clear hd
            clear HN HE HP hpq
            go_wp2_with fail
            first | exact HV.o | (go_ret; exact HV.o)
      · have hkz : ¬ (k : Int) < (l.length : Int) := by omega
        have HV := hq (HP.o true wr ⟨fun _ => by
          have := ht.o
          rwa [List.take_of_length_le (by omega), List.take_of_length_le (by have := HLEN.o; omega)] at this, fun _ => rfl⟩ hb.o)
        clear HP HRU HRV ht hb HLEN
        go_wp2_with fail
        first | exact HV.o | (go_ret; exact HV.o)
end Go.Proofs.YtmadgdafgkleiaaGreatDoor

