/-
  WALKS: rules.further and its two closures.
  WALKS: rules.Match, whole.
  RULES in memory; WALKS: pointer.Right, rules.Right, rules.Find.
  WALKS: two rows of texts beside each other (the document's Compare, Same of paths); is a row short? (cut out of OrR and OrT)
-/
import Derived.Test.YtnlkokgekjlmmaaGreatDoorShelf
import Derived.Test.YtnlkokgekjlmmaaGreatDoorBas
import Derived.Laws.OwnMore
import Derived.Deep.LoopGhost
import Derived.Deep.CutRange
import Derived.Deep.RegionHeld3
import Derived.Deep.RegionWith
import Derived.Test.YtnlkokgekjlmmaaGreatDoorRun
namespace Go.Proofs.YtnlkokgekjlmmaaGreatDoor
open Go.RowKit
def bC (l : List Bool) : Array Value := (l.map Value.bool).toArray
def StepPost (W : World) (n : Nat) (l : List Bool) (e : Ending) (W' : World) : Prop := (∃ g', e = .returned (.slice (some ⟨g', 0, none⟩) n n) ∧ Whole W' g' 4 (bC l)) ∧ Below W.heap.size W W'
def FurPost (W : World) (x : Bs) (r : SRow) (e : Ending) (W' : World) : Prop := ∃ F caps, e = .returned (.func (.func F) #[] caps) ∧ Below W.heap.size W W' ∧ (∀ xs w, (callFunc F xs).run Tryz.prog w = .ok (.enter F xs) w) ∧
 ∀ WW, Below W'.heap.size W' WW → ∀ g f, f.length = r.l.length + 1 → r.l.length ≤ 1000 → Whole WW g 4 (bC f) → Calls Tryz.prog F (#[.slice (some ⟨g, 0, none⟩) (r.l.length + 1) (r.l.length + 1)] ++ caps) WW (StepPost WW (r.l.length + 1) (rowM r.l x f))
def MatchPost (p l : List Bs) (W : World) (e : Ending) (W' : World) : Prop := e = .returned (.bool (matchM p l)) ∧ Below W.heap.size W W'
theorem strs_at {w w' : World} {o : Option Addr} {l : List Bs} (h : StrsIn w o l) (hb : Below w.heap.size w w') {i : Nat} (hi : i < l.length) : ∃ b f, o = some ⟨b, f, none⟩ ∧ w'.cell? ⟨b, f + i, none⟩ = some (.string (st l[i])) := h.grow hb i hi
def pgoodB (p : List Bs) : Bool := decide (p.length ≤ 64) && p.all fun x => (valid (st x)).2
structure RU where
 p : SRow
 k : Bs
def RU.m (r : RU) : List Bs × Bs := (r.p.l, r.k)
def rgoodB (l : List RU) : Bool := decide (l.length ≤ 32) && l.all fun r => (valid (st r.k)).2 && pgoodB r.p.l
def RulesIn (w : World) (o : Option Addr) (l : List RU) : Prop := ∀ i (h : i < l.length), ∃ b f, o = some ⟨b, f, none⟩ ∧ w.cell? ⟨b, f + i * 2, none⟩ = some l[i].p.v ∧ w.cell? ⟨b, f + i * 2 + 1, none⟩ = some (.string (st l[i].k)) ∧ l[i].p.ok w
theorem RulesIn.grow {w w' : World} {o : Option Addr} {l : List RU} (h : RulesIn w o l) (hb : Below w.heap.size w w') : RulesIn w' o l := fun i hi => by
 obtain ⟨b, f, h1, h2, h3, h4⟩ := h i hi
 exact ⟨b, f, h1, (hb.cell (p := ⟨b, f + i * 2, none⟩) (cell_blk h2)).trans h2, (hb.cell (p := ⟨b, f + i * 2 + 1, none⟩) (cell_blk h3)).trans h3, h4.grow hb⟩
def Room (l : List Bs) : Prop := ∀ x ∈ l, x.length ≤ maxLen
structure RulesOk (w : World) (o : Option Addr) (cap : Nat) (l : List RU) : Prop where
 le : l.length ≤ cap
 cp : cap ≤ maxLen
 rd : RulesIn w o l
 km : ∀ r ∈ l, r.k.length ≤ maxLen ∧ Room r.p.l
theorem RulesOk.grow {w w' : World} {o : Option Addr} {cap : Nat} {l : List RU} (h : RulesOk w o cap l) (hb : Below w.heap.size w w') : RulesOk w' o cap l := ⟨h.le, h.cp, h.rd.grow hb, h.km⟩
theorem all_take {α : Type} {l : List α} {i : Nat} (f : α → Bool) (hi : i < l.length) : (l.take (i + 1)).all f = ((l.take i).all f && f l[i]) := by
 rw [List.take_succ_eq_append_getElem hi, List.all_append]
 simp
theorem all_bad {α : Type} {l : List α} {i : Nat} {f : α → Bool} (hi : i < l.length) (h : f l[i] = false) : l.all f = false := by
 rw [List.all_eq_false]
 exact ⟨l[i], List.getElem_mem hi, by simp [h]⟩
def BoolPost (v : Bool) (W : World) (e : Ending) (W' : World) : Prop := e = .returned (.bool v) ∧ Below W.heap.size W W'
set_option maxHeartbeats 2000000 in
set_option maxRecDepth 1000000 in
theorem pright_any (p : SRow) (W : World) (hT : tabs W) (hp : p.ok W) (hm : Room p.l) : Calls Tryz.prog 74 #[p.v] W (BoolPost (pgoodB p.l) W) := by
 obtain ⟨o, cap, l⟩ := p
 have HPO := hq hp
 have hpc := hp.le
 have hpm := hp.cp
 unfold maxLen at hpm
 have HVL := hq (fun x (hx : x ∈ l) WW (hb : Below W.heap.size W WW) => valid_any (st x) WW (tabs_grow hT hb) (by rw [st_size]; exact hm x hx))
 have HP : Hq (∀ b W', pgoodB l = b → Below W.heap.size W W' → BoolPost (pgoodB l) W (.returned (.bool b)) W') := hq (fun b W' h1 h2 => ⟨by rw [h1], h2⟩)
 have HM : Hq (pgoodB l = (decide (l.length ≤ 64) && l.all fun x => (valid (st x)).2)) := hq rfl
 simp only at hpc hpm ⊢
 unfold SRow.v
 generalize BoolPost (pgoodB l) W = PP at *
 clear hp hm hT
 simp only
 by_cases h1 : 64 < l.length
 · have hz : (64 : Int) < (l.length : Int) := by omega
   have HV := hq (HP.o false W (by rw [HM.o, decide_eq_false (by omega)]; rfl) (Below.refl _ _))
   clear HP HM HVL h1
   go_enter Tryz.func74, Tryz.ntmps74
   go_wp2_with fail
   first | exact HV.o | (go_ret; exact HV.o)
 · have hz : ¬ (64 : Int) < (l.length : Int) := by omega
   have HM2 : Hq (pgoodB l = l.all fun x => (valid (st x)).2) := hq (by rw [HM.o, decide_eq_true (by omega)]; rfl)
   clear HM h1
   go_enter Tryz.func74, Tryz.ntmps74
   go_wp2_with fail
   go_loopg [4, 5, 6, 12] l.length (fun gk _ _ _ u wr => ∃ i : Nat, i + gk ≤ l.length ∧ l.length ≤ i + gk ∧ u = .int .i64 (i : Int) ∧ Hq ((l.take i).all (fun x => (valid (st x)).2) = true) ∧ Hq (Below W.heap.size W wr))
   case atStart => exact ⟨0, by omega, by omega, rfl, hq (by simp), hq (Below.refl _ _)⟩
   case round =>
    obtain ⟨i, hi1, hi2, rfl, hall, hb⟩ := hrel
    by_cases hil : i < l.length
    · have hiz : (i : Int) < (l.length : Int) := by omega
      obtain ⟨b, f, rfl, c0⟩ := strs_at HPO.o.rd hb.o hil
      simp only at c0
      have HC := hq (HVL.o l[i] (List.getElem_mem hil) wr hb.o)
      have HT := hq (all_take (fun x => (valid (st x)).2) hil)
      have HBD := hq (@all_bad _ l i (fun x => (valid (st x)).2) hil)
      generalize l[i] = x at *
      generalize hV : valid (st x) = V at *
      obtain ⟨vn, vb⟩ := V
      simp only at HC HT HBD
      clear HVL hV HPO
      cases vb with
      | true =>
        clear HP HBD
        go_wp2_with fail
        refine HC.o.mono ?_
        rintro e W2 ⟨rfl, hb2⟩
        have HB2 := hq (below_trans hb.o hb2)
        clear HC hb hb2
        go_wp2_with fail
        go_roundg (gk - 1)
        case measure => omega
        case rel => exact ⟨i + 1, by omega, by omega, int_eq (by omega), hq (by rw [HT.o, hall.o]; rfl), HB2⟩
      | false =>
        have HV := hq (fun W2 hb2 => HP.o false W2 (by rw [HM2.o]; exact HBD.o rfl) (below_trans hb.o hb2))
        clear HP HBD HT hb
        go_wp2_with fail
        refine HC.o.mono ?_
        rintro e W2 ⟨rfl, hb2⟩
        have HV2 := hq (HV.o _ hb2)
        clear HC HV hb2
        go_wp2_with fail
        first | exact HV2.o | (go_ret; exact HV2.o)
    · have hiz : ¬ (i : Int) < (l.length : Int) := by omega
      have HV := hq (HP.o true wr (by rw [HM2.o]; have := hall.o; rwa [List.take_of_length_le (by omega)] at this) hb.o)
      clear HP HVL HPO hall hb
      go_wp2_with fail
      first | exact HV.o | (go_ret; exact HV.o)
def CompPost (la lb : List Bs) (w : World) (e : Ending) (w' : World) : Prop := (∃ c : Int, e = .returned (.int .i64 c) ∧ (c = 0 ↔ la = lb)) ∧ Below w.heap.size w w'
structure ShortL (l : List Bs) : Prop where
 len : l.length ≤ 200
 each : ∀ x ∈ l, x.length ≤ 1024
def ShortPost (l : List Bs) (w : World) (e : Ending) (w' : World) : Prop := (∃ v : Bool, e = .returned (.bool v) ∧ (v = true → ShortL l)) ∧ w' = w
set_option maxHeartbeats 1000000 in
set_option maxRecDepth 1000000 in
theorem short_any (o : Option Addr) (cap : Nat) (l : List Bs) (w : World) (_hl : l.length ≤ cap) (_hc : cap ≤ maxLen) (hin : StrsIn w o l) (hs : ∀ x ∈ l, x.length ≤ maxLen) :
 Calls Tryz.prog 33 #[.slice o l.length cap] w (ShortPost l w) := by
 have HIN := hq hin
 have HS := hq hs
 unfold maxLen at _hc
 clear hin hs
 have HP : Hq (∀ (v : Bool), (v = true → ShortL l) → ShortPost l w (.returned (.bool v)) w) := hq (fun v h1 => ⟨⟨v, rfl, h1⟩, rfl⟩)
 generalize ShortPost l w = PP at *
 go_enter Tryz.func33, Tryz.ntmps33
 go_wp2_with fail
 go_loop [3] (fun i => ∃ k : Nat, k ≤ l.length ∧ k ≤ 300 ∧ i = .int .i64 (k : Int) ∧ Hq (∀ a (ha : a < l.length), a < k → l[a].length ≤ 1024)) (fun i => l.length - (intOf i).toNat)
 case atStart => exact ⟨0, Nat.zero_le _, Nat.zero_le _, rfl, hq (fun a _ h0 => absurd h0 (Nat.not_lt_zero _))⟩
 case round =>
  obtain ⟨k, hk, hk3, rfl, hp⟩ := hrel
  by_cases h : k < l.length
  · by_cases h3 : k < 300
    · have hkz : (k : Int) < (l.length : Int) := by omega
      have hkz3 : (k : Int) < 300 := by omega
      obtain ⟨b, f, rfl, hcell⟩ := HIN.o k h
      have hx := HS.o l[k] (List.getElem_mem h)
      have HN : Hq (l[k].length ≤ 1024 → ∀ a (ha : a < l.length), a < k + 1 → l[a].length ≤ 1024) := hq (fun h1 a ha h2 => by
       by_cases e : a = k
       · subst e; exact h1
       · exact hp.o a ha (by omega))
      unfold maxLen at hx
      clear hp HIN HS
      generalize l[k] = x at *
      by_cases h4 : x.length ≤ 1024
      · have h4z : ¬ (1024 : Int) < (x.length : Int) := by omega
        have HN2 := hq (HN.o h4)
        clear HN
        go_wp2_with fail
        go_round
        case rel => exact ⟨k + 1, h, h3, int_eq (by omega), HN2⟩
        case measure => simp [intOf]; omega
      · have h4z : (1024 : Int) < (x.length : Int) := by omega
        have HV := hq (HP.o false (fun h => by cases h))
        clear HN HP
        go_wp2_with fail
        exact HV.o
    · obtain rfl : k = 300 := by omega
      have h200 : ¬ (l.length : Int) ≤ 200 := by omega
      have hd : decide ((l.length : Int) ≤ 200) = false := decide_eq_false h200
      have HV := hq (HP.o false (fun h => by cases h))
      clear hp HP
      go_wp2_with fail
      exact HV.o
  · have hkz : ¬ (k : Int) < (l.length : Int) := by omega
    by_cases h200 : l.length ≤ 200
    · have hd : decide ((l.length : Int) ≤ 200) = true := decide_eq_true (by omega)
      have hz : (l.length : Int) ≤ 200 := by omega
      have HV := hq (HP.o true (fun _ => ⟨h200, fun x hx => by
       obtain ⟨i, hi, rfl⟩ := List.mem_iff_getElem.1 hx
       exact hp.o i hi (by omega)⟩))
      clear hp HP
      go_wp2_with fail
      exact HV.o
    · have hz : ¬ (l.length : Int) ≤ 200 := by omega
      have hd : decide ((l.length : Int) ≤ 200) = false := decide_eq_false hz
      have HV := hq (HP.o false (fun h => by cases h))
      clear hp HP
      go_wp2_with fail
      exact HV.o
end Go.Proofs.YtnlkokgekjlmmaaGreatDoor
