/-
  WALKS: two rows of texts beside each other (the document's Compare, Same of paths); is a row short? (cut out of OrR and OrT)
-/
import Derived.Test.YtmomildkopainaaDoorShelf
import Derived.Test.YtmomildkopainaaDoorStrA
namespace Go.Proofs.YtmomildkopainaaDoor
open Go.RowKit

theorem bl_irr : ∀ x : Bs, Op.bytesLess x x = false
  | [] => rfl
  | a :: x => by
    unfold Op.bytesLess
    simp [bl_irr x]
theorem bl_tri : ∀ x y : Bs, Op.bytesLess x y = false → Op.bytesLess y x = false → x = y
  | [], [], _, _ => rfl
  | [], b :: y, h, _ => by simp [Op.bytesLess] at h
  | a :: x, [], _, h => by simp [Op.bytesLess] at h
  | a :: x, b :: y, h1, h2 => by
    unfold Op.bytesLess at h1 h2
    simp at h1 h2
    have hab : a = b := by
      have h3 := h1.1
      have h4 := h2.1
      rw [UInt8.le_iff_toNat_le] at h3 h4
      exact UInt8.toNat_inj.1 (by omega)
    subst hab
    rw [bl_tri x y (by simpa using h1) (by simpa using h2)]

theorem take_eq {a b : List Bs} {k : Nat} (ha : k < a.length) (hb : k < b.length) (h : a.take k = b.take k) (e : a[k] = b[k]) : a.take (k + 1) = b.take (k + 1) := by
  rw [List.take_succ_eq_append_getElem ha, List.take_succ_eq_append_getElem hb, h, e]
theorem ne_at {a b : List Bs} {k : Nat} (ha : k < a.length) (hb : k < b.length) (e : a[k] ≠ b[k]) : a ≠ b := fun h => by subst h; exact e rfl

def CompPost (la lb : List Bs) (w : World) (e : Ending) (w' : World) : Prop := (∃ c : Int, e = .returned (.int .i64 c) ∧ (c = 0 ↔ la = lb)) ∧ Below w.heap.size w w'

set_option maxHeartbeats 1000000 in
set_option maxRecDepth 1000000 in
theorem rcomp_any (o o' : Option Addr) (cap cap' : Nat) (la lb : List Bs) (w : World) (hl : la.length ≤ cap) (hc : cap ≤ maxLen) (hin : StrsIn w o la) (_hl' : lb.length ≤ cap') (_hc' : cap' ≤ maxLen) (hin' : StrsIn w o' lb) :
    Calls Tryd.prog 66 #[.slice o la.length cap, .slice o' lb.length cap'] w (CompPost la lb w) := by
  have HA := hq hin
  have HB := hq hin'
  unfold maxLen at hc _hc'
  clear hin hin'
  have HP : Hq (∀ (c : Int) w', (c = 0 ↔ la = lb) → Below w.heap.size w w' → CompPost la lb w (.returned (.int .i64 c)) w') := hq (fun c w' h1 h2 => ⟨⟨c, rfl, h1⟩, h2⟩)
  generalize CompPost la lb w = PP at *
  go_enter Tryd.func66, Tryd.ntmps66
  go_wp2_with fail
  go_loopw [5] (fun i wr => ∃ k : Nat, k ≤ la.length ∧ k ≤ lb.length ∧ i = .int .i64 (k : Int) ∧ Hq (la.take k = lb.take k) ∧ Hq (Below w.heap.size w wr)) (fun i _ => la.length - (intOf i).toNat)
  case atStart => exact ⟨0, Nat.zero_le _, Nat.zero_le _, rfl, hq rfl, hq (Below.refl _ _)⟩
  case round =>
    obtain ⟨k, hk, hk', rfl, ht, hb⟩ := hrel
    by_cases h : k < la.length
    · by_cases h2 : k < lb.length
      · have hkz : (k : Int) < (la.length : Int) := by omega
        have hkz2 : (k : Int) < (lb.length : Int) := by omega
        obtain ⟨b, f, rfl, hcell⟩ := HA.o k h
        obtain ⟨b', f', rfl, hcell'⟩ := HB.o k h2
        have c0 := (hb.o.cell (cell_blk hcell)).trans hcell
        have c1 := (hb.o.cell (cell_blk hcell')).trans hcell'
        have HN := hq (take_eq h h2 ht.o)
        have HE := hq (@ne_at la lb k h h2)
        clear hcell hcell' ht HA HB
        generalize la[k] = x at *
        generalize lb[k] = y at *
        cases h3 : Op.bytesLess x y with
        | true =>
          have hne : x ≠ y := fun e => by subst e; rw [bl_irr] at h3; cases h3
          have HV := hq (HP.o (-1) wr.drew ⟨fun e => by omega, fun e => absurd e (HE.o hne)⟩ hb.o.drew)
          clear HN HE HP hne
          go_wp2_with fail
          go_region
          go_wp2_with fail
          exact HV.o
        | false =>
          by_cases hne : x = y
          case neg =>
            have e5 : (x == y) = false := beq_eq_false_iff_ne.2 hne
            have HV := hq (HP.o 1 wr.drew.drew ⟨fun e => by omega, fun e => absurd e (HE.o hne)⟩ hb.o.drew.drew)
            clear HN HE HP hne
            go_wp2_with fail
            go_region
            go_wp2_with fail
            go_region
            go_wp2_with fail
            exact HV.o
          case pos =>
            have e5 : (x == y) = true := beq_iff_eq.2 hne
            have HN2 := hq (HN.o hne)
            clear HN HE HP hne
            go_wp2_with fail
            go_region
            go_wp2_with fail
            go_region
            go_wp2_with fail
            go_roundw
            case rel => exact ⟨k + 1, h, h2, int_eq (by omega), HN2, hq hb.o.drew.drew⟩
            case measure => simp [intOf]; omega
      · have hkz : (k : Int) < (la.length : Int) := by omega
        have hkz2 : ¬ (k : Int) < (lb.length : Int) := by omega
        have hgt : (lb.length : Int) < (la.length : Int) := by omega
        have hlt : ¬ (la.length : Int) < (lb.length : Int) := by omega
        have hgtn : lb.length < la.length := by omega
        have HV := hq (HP.o 1 wr ⟨fun e => by omega, fun e => by rw [e] at hgtn; omega⟩ hb.o)
        clear ht HP
        go_wp2_with fail
        exact HV.o
    · have hkz : ¬ (k : Int) < (la.length : Int) := by omega
      obtain rfl : k = la.length := by omega
      by_cases h2 : la.length < lb.length
      · have hlt : (la.length : Int) < (lb.length : Int) := by omega
        have HV := hq (HP.o (-1) wr ⟨fun e => by omega, fun e => by rw [e] at h2; omega⟩ hb.o)
        clear ht HP
        go_wp2_with fail
        exact HV.o
      · have hlt : ¬ (la.length : Int) < (lb.length : Int) := by omega
        have hgt : ¬ (lb.length : Int) < (la.length : Int) := by omega
        have hgtn : ¬ lb.length < la.length := by omega
        have HV := hq (HP.o 0 wr ⟨fun _ => by
          have := ht.o
          rw [List.take_length, List.take_of_length_le (by omega)] at this
          exact this, fun _ => rfl⟩ hb.o)
        clear ht HP
        go_wp2_with fail
        exact HV.o
set_option maxHeartbeats 1000000 in
set_option maxRecDepth 1000000 in
theorem rsame_any (o o' : Option Addr) (cap cap' : Nat) (la lb : List Bs) (w : World) (hl : la.length ≤ cap) (hc : cap ≤ maxLen) (hin : StrsIn w o la) (hl' : lb.length ≤ cap') (hc' : cap' ≤ maxLen) (hin' : StrsIn w o' lb) :
    Calls Tryd.prog 42 #[.slice o la.length cap, .slice o' lb.length cap'] w fun e w' => e = .returned (.bool (decide (la = lb))) ∧ Below w.heap.size w w' := by
  have HC := hq (rcomp_any o o' cap cap' la lb w hl hc hin hl' hc' hin')
  clear hin hin'
  go_enter Tryd.func42, Tryd.ntmps42
  go_wp2_with fail
  refine HC.o.mono ?_
  rintro e w1 ⟨⟨c, rfl, hce⟩, hb1⟩
  have HB1 := hq hb1
  clear HC hb1
  by_cases h0 : c = 0
  · have HV : Hq (decide (la = lb) = true) := hq (decide_eq_true (hce.1 h0))
    subst h0
    clear hce
    go_wp2_with fail
    go_ret
    exact ⟨by show Ending.returned (Value.bool true) = _; rw [HV.o], HB1.o⟩
  · have HV : Hq (decide (la = lb) = false) := hq (decide_eq_false (fun e => h0 (hce.2 e)))
    have e1 : (c == 0) = false := beq_eq_false_iff_ne.2 h0
    clear hce
    go_wp2_with fail
    go_ret
    exact ⟨by show Ending.returned (Value.bool false) = _; rw [HV.o], HB1.o⟩

/-- is a row short? -/
structure ShortL (l : List Bs) : Prop where
  len : l.length ≤ 200
  each : ∀ x ∈ l, x.length ≤ 1024
def ShortPost (l : List Bs) (w : World) (e : Ending) (w' : World) : Prop := (∃ v : Bool, e = .returned (.bool v) ∧ (v = true → ShortL l)) ∧ w' = w
set_option maxHeartbeats 1000000 in
set_option maxRecDepth 1000000 in
theorem short_any (o : Option Addr) (cap : Nat) (l : List Bs) (w : World) (_hl : l.length ≤ cap) (_hc : cap ≤ maxLen) (hin : StrsIn w o l) (hs : ∀ x ∈ l, x.length ≤ maxLen) :
    Calls Tryd.prog 14 #[.slice o l.length cap] w (ShortPost l w) := by
  have HIN := hq hin
  have HS := hq hs
  unfold maxLen at _hc
  clear hin hs
  have HP : Hq (∀ (v : Bool), (v = true → ShortL l) → ShortPost l w (.returned (.bool v)) w) := hq (fun v h1 => ⟨⟨v, rfl, h1⟩, rfl⟩)
  generalize ShortPost l w = PP at *
  go_enter Tryd.func14, Tryd.ntmps14
  go_wp2_with fail
  go_loop [3] (fun i => ∃ k : Nat, k ≤ l.length ∧ k ≤ 300 ∧ i = .int .i64 (k : Int) ∧ Hq (∀ a (ha : a < l.length), a < k → l[a].length ≤ 1024)) (fun i => l.length - (intOf i).toNat)
  case atStart => exact ⟨0, Nat.zero_le _, Nat.zero_le _, rfl, hq (fun a _ h0 => absurd h0 (Nat.not_lt_zero _))⟩
  case round =>
    obtain ⟨k, hk, hk3, rfl, hp⟩ := hrel
    by_cases h : k < l.length
    · by_cases h3 : k < 300
      · have hkz : (k : Int) < (l.length : Int) := by omega
        have hkz3 : (k : Int) < 300 := by omega
        obtain ⟨b, f, rfl, hcell⟩ := HIN.o k h
        have hx := HS.o l[k] (List.getElem_mem h)
        have HN : Hq (l[k].length ≤ 1024 → ∀ a (ha : a < l.length), a < k + 1 → l[a].length ≤ 1024) := hq (fun h1 a ha h2 => by
          by_cases e : a = k
          · subst e; exact h1
          · exact hp.o a ha (by omega))
        unfold maxLen at hx
        clear hp HIN HS
        generalize l[k] = x at *
        by_cases h4 : x.length ≤ 1024
        · have h4z : ¬ (1024 : Int) < (x.length : Int) := by omega
          have HN2 := hq (HN.o h4)
          clear HN
          go_wp2_with fail
          go_round
          case rel => exact ⟨k + 1, h, h3, int_eq (by omega), HN2⟩
          case measure => simp [intOf]; omega
        · have h4z : (1024 : Int) < (x.length : Int) := by omega
          have HV := hq (HP.o false (fun h => by cases h))
          clear HN HP
          go_wp2_with fail
          exact HV.o
      · obtain rfl : k = 300 := by omega
        have h200 : ¬ (l.length : Int) ≤ 200 := by omega
        have hd : decide ((l.length : Int) ≤ 200) = false := decide_eq_false h200
        have HV := hq (HP.o false (fun h => by cases h))
        clear hp HP
        go_wp2_with fail
        exact HV.o
    · have hkz : ¬ (k : Int) < (l.length : Int) := by omega
      by_cases h200 : l.length ≤ 200
      · have hd : decide ((l.length : Int) ≤ 200) = true := decide_eq_true (by omega)
        have hz : (l.length : Int) ≤ 200 := by omega
        have HV := hq (HP.o true (fun _ => ⟨h200, fun x hx => by
          obtain ⟨i, hi, rfl⟩ := List.mem_iff_getElem.1 hx
          exact hp.o i hi (by omega)⟩))
        clear hp HP
        go_wp2_with fail
        exact HV.o
      · have hz : ¬ (l.length : Int) ≤ 200 := by omega
        have hd : decide ((l.length : Int) ≤ 200) = false := decide_eq_false hz
        have HV := hq (HP.o false (fun h => by cases h))
        clear hp HP
        go_wp2_with fail
        exact HV.o
end Go.Proofs.YtmomildkopainaaDoor
