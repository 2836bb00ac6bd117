/-
  WALKS: scarflaw18.Few; scarfref18.Same.
-/
import Derived.Test.YtmadgdafgkleiaaDoorRuF
import Derived.BigQuiet
import Derived.Deep.RegionHeld3
namespace Go.Proofs.YtmadgdafgkleiaaDoor
open Go.RowKit
structure FewL (l : List RU) : Prop where
  len : l.length ≤ 60
  each : ∀ r ∈ l, ShortL r.p.l ∧ r.k.length ≤ 1024
def RFewPost (l : List RU) (w : World) (e : Ending) (w' : World) : Prop := (∃ v : Bool, e = .returned (.bool v) ∧ (v = true → FewL l)) ∧ w' = w
set_option maxHeartbeats 2000000 in
set_option maxRecDepth 1000000 in
theorem rufew_any (o : Option Addr) (cap : Nat) (l : List RU) (w : World) (h : RulesOk w o cap l) : Calls Tryd.prog 5 #[.slice o l.length cap] w (RFewPost l w) := by
  have HRU := hq h
  have hpc := h.le
  have hpm := h.cp
  unfold maxLen at hpm
  have HSH := hq (fun (r : RU) (hr : r ∈ l) (hp : r.p.ok w) => short_any r.p.o r.p.cap r.p.l w hp.le hp.cp hp.rd (h.km r hr).2)
  have HKM := hq (fun (r : RU) (hr : r ∈ l) => (h.km r hr).1)
  have HP : Hq (∀ (v : Bool), (v = true → FewL l) → RFewPost l w (.returned (.bool v)) w) := hq (fun v h1 => ⟨⟨v, rfl, h1⟩, rfl⟩)
  clear h
  generalize RFewPost l w = PP at *
  go_enter Tryd.func5, Tryd.ntmps5
  go_wp2_with fail
  go_loop [3, 4] (fun i _ => ∃ k : Nat, k ≤ l.length ∧ k ≤ 100 ∧ i = .int .i64 (k : Int) ∧ Hq (∀ a (ha : a < l.length), a < k → ShortL l[a].p.l ∧ l[a].k.length ≤ 1024)) (fun i _ => l.length - (intOf i).toNat)
  case atStart => exact ⟨0, Nat.zero_le _, Nat.zero_le _, rfl, hq (fun a _ h0 => absurd h0 (Nat.not_lt_zero _))⟩
  case round =>
    obtain ⟨k, hk, hk3, rfl, hp⟩ := hrel
    by_cases h : k < l.length
    · by_cases h3 : k < 100
      · have hkz : (k : Int) < (l.length : Int) := by omega
        have hkz3 : (k : Int) < 100 := by omega
        obtain ⟨b, f, rfl, c0, c1, hok⟩ := HRU.o.rd k h
        have HC := hq (HSH.o l[k] (List.getElem_mem h) hok)
        have hx := HKM.o l[k] (List.getElem_mem h)
        have HN : Hq (ShortL l[k].p.l ∧ l[k].k.length ≤ 1024 → ∀ a (ha : a < l.length), a < k + 1 → ShortL l[a].p.l ∧ l[a].k.length ≤ 1024) := hq (fun h1 a ha h2 => by
          by_cases e : a = k
          · subst e; exact h1
          · exact hp.o a ha (by omega))
        unfold maxLen at hx
        clear hp HSH HRU hok HKM
        generalize l[k] = x at *
        obtain ⟨⟨po, pc, pl⟩, ky⟩ := x
        unfold SRow.v at c0
        simp only at c0 c1 hx HN HC
        go_wp2_with fail
        refine HC.o.mono ?_
        rintro e w2 ⟨⟨v, rfl, hv⟩, hw⟩
        obtain rfl := hw.symm
        cases v with
        | false =>
          have HV := hq (HP.o false (fun h => by cases h))
          clear HN HP HC hv
          go_wp2_with fail
          first | exact HV.o | (go_ret; exact HV.o)
        | true =>
          by_cases h4 : ky.length ≤ 1024
          · have h4z : ¬ (1024 : Int) < (ky.length : Int) := by omega
            have HN2 := hq (HN.o ⟨hv rfl, h4⟩)
            clear HN HC hv
            go_wp2_with fail
            go_round
            case rel => exact ⟨k + 1, h, h3, int_eq (by omega), HN2⟩
            case measure => simp [intOf]; omega
          · have h4z : (1024 : Int) < (ky.length : Int) := by omega
            have HV := hq (HP.o false (fun h => by cases h))
            clear HN HP HC hv
            go_wp2_with fail
            first | exact HV.o | (go_ret; exact HV.o)
      · obtain rfl : k = 100 := by omega
        have h60 : ¬ (l.length : Int) ≤ 60 := by omega
        have hd : decide ((l.length : Int) ≤ 60) = false := decide_eq_false h60
        have HV := hq (HP.o false (fun h => by cases h))
        clear hp HP HSH HKM HRU
        go_wp2_with fail
        first | exact HV.o | (go_ret; exact HV.o)
    · have hkz : ¬ (k : Int) < (l.length : Int) := by omega
      by_cases h60 : l.length ≤ 60
      · have hd : decide ((l.length : Int) ≤ 60) = true := decide_eq_true (by omega)
        have hz : (l.length : Int) ≤ 60 := by omega
        have HV := hq (HP.o true (fun _ => ⟨h60, fun x hx => by
          obtain ⟨i, hi, rfl⟩ := List.mem_iff_getElem.1 hx
          exact hp.o i hi (by omega)⟩))
        clear hp HP HSH HKM HRU
        go_wp2_with fail
        first | exact HV.o | (go_ret; exact HV.o)
      · have hz : ¬ (l.length : Int) ≤ 60 := by omega
        have hd : decide ((l.length : Int) ≤ 60) = false := decide_eq_false hz
        have HV := hq (HP.o false (fun h => by cases h))
        clear hp HP HSH HKM HRU
        go_wp2_with fail
        first | exact HV.o | (go_ret; exact HV.o)
end Go.Proofs.YtmadgdafgkleiaaDoor

