/-
  WALKS: the document's hex, utf.
  WALKS: the document's escape.
  WALKS: the document's Read, End.
  WALKS: the document's Unquote.
  WALKS: the document's among, run, Same, Text of layer 4.
  WALKS: the document's token at a byte.
  WALKS: the document's Tokens, Text.
-/
import Derived.Test.YtmadgdafgkleiaaGreatDoorUna
import Derived.BigQuiet
import Derived.Deep.QuietTactic
import Derived.Test.YtmadgdafgkleiaaGreatDoorUnv
import Derived.Test.YtmadgdafgkleiaaGreatDoorLexv
import Derived.Test.YtmadgdafgkleiaaGreatDoorNumKW
namespace Go.Proofs.YtmadgdafgkleiaaGreatDoor
open Go.RowKit
def hexGo (s : ByteArray) : Nat → Nat → Nat → Option Nat
  | 0, _, acc => some acc
  | j + 1, p, acc => match hexv (byt s p) with
    | none => none
    | some d => hexGo s j (p + 1) (16 * acc + d)
theorem hexGo_four (s : ByteArray) (p : Nat) : hexGo s 4 p 0 = hex4 (byt s p) (byt s (p + 1)) (byt s (p + 2)) (byt s (p + 3)) := by
  unfold hex4
  simp only [hexGo]
  cases hexv (byt s p) with
  | none => rfl
  | some x =>
    simp only
    cases hexv (byt s (p + 1)) with
    | none => rfl
    | some y =>
      simp only
      rw [show p + 1 + 1 = p + 2 by omega]
      cases hexv (byt s (p + 2)) with
      | none => rfl
      | some z =>
        simp only
        rw [show p + 2 + 1 = p + 3 by omega]
        cases hexv (byt s (p + 3)) with
        | none => rfl
        | some u => simp only [Option.some.injEq]; omega
def hexAt (s : ByteArray) (p : Nat) : Option Nat := if p + 4 ≤ s.size then hexGo s 4 p 0 else none
def hexZ (o : Option Nat) : Int := match o with | none => -1 | some n => (n : Int)
theorem uni_hex (s : ByteArray) (p : Nat) (_ : p + 1 < s.size) (h2 : byt s p = 92) (h3 : byt s (p + 1) = 117) : uni s p = hexAt s (p + 2) := by
  unfold uni hexAt
  by_cases h : p + 6 ≤ s.size
  · rw [if_pos ⟨h, h2, h3⟩, if_pos (by omega), hexGo_four]
  · rw [if_neg (fun hh => h hh.1), if_neg (by omega)]
theorem hexAt_lt {s : ByteArray} {p n : Nat} (h : hexAt s p = some n) : n < 65536 := by
  unfold hexAt at h
  split at h
  · rw [hexGo_four] at h; exact hex4_lt h
  · cases h
def HexPost (o : Option Nat) (w : World) (e : Ending) (w' : World) : Prop := e = .returned (.int .i64 (hexZ o)) ∧ w = w'
def accBd (k acc : Nat) : Prop := k = 0 ∧ acc = 0 ∨ k = 1 ∧ acc < 16 ∨ k = 2 ∧ acc < 256 ∨ k = 3 ∧ acc < 4096 ∨ k = 4 ∧ acc < 65536
theorem accBd_next {k acc d : Nat} (hk : k < 4) (h : accBd k acc) (hd : d < 16) : accBd (k + 1) (16 * acc + d) := by unfold accBd at *; omega
set_option maxHeartbeats 1000000 in
set_option maxRecDepth 1000000 in
theorem rhex_any (s : ByteArray) (p : Nat) (w : World) (hs : s.size ≤ 1099511627776) (hp : p ≤ 1099511627800) :
    Calls Tryz.prog 86 #[.string s, .int .i64 (p : Int)] w (HexPost (hexAt s p) w) := by
  by_cases h4 : p + 4 ≤ s.size
  · have HM : Hq (hexAt s p = hexGo s 4 p 0) := hq (by unfold hexAt; rw [if_pos h4])
    generalize hexAt s p = R at *
    have h4' : ¬ (s.size : Int) - 4 < (p : Int) := by omega
    go_enter Tryz.func86, Tryz.ntmps86
    go_wp2_with fail
    go_loop [5, 6] (fun n i => ∃ (k acc : Nat), k ≤ 4 ∧ n = .int .i64 (acc : Int) ∧ i = .int .i64 ((p : Int) + (k : Int)) ∧ Hq (R = hexGo s (4 - k) (p + k) acc) ∧ Hq (accBd k acc)) (fun _ i => (p + 4 - (intOf i).toNat))
    case atStart => exact ⟨0, 0, by omega, rfl, int_eq (by omega), HM, hq (.inl ⟨rfl, rfl⟩)⟩
    case round =>
      obtain ⟨k, acc, hk, rfl, rfl, hR, hbd⟩ := hrel
      clear HM
      have hacc : acc ≤ 65535 := by have := hbd.o; unfold accBd at this; omega
      by_cases hk4 : k < 4
      · have y0 : ((s[p + k]'(by omega)).toNat : Int) = (byt s (p + k) : Int) := by rw [byt_eq s (p + k) (by omega)]
        have hz : ((p : Int) + (k : Int)).toNat = p + k := by omega
        obtain ⟨j, hj⟩ : ∃ j, 4 - k = j + 1 := ⟨3 - k, by omega⟩
        have HR2 : Hq (R = match hexv (byt s (p + k)) with | none => none | some d => hexGo s j (p + k + 1) (16 * acc + d)) := hq (by
          rw [hR.o, hj, hexGo])
        have HJ : Hq (j = 4 - (k + 1)) := hq (by omega)
        have hb := byt_lt s (p + k)
        generalize byt s (p + k) = c at *
        clear hR hj
        have h1 : (p : Int) + (k : Int) < (p : Int) + 4 := by omega
        cases hv : hexv c with
        | none =>
          have HN : Hq (R = none) := hq (by rw [HR2.o, hv])
          have hc : c < 48 ∨ (57 < c ∧ c < 65) ∨ (70 < c ∧ c < 97) ∨ 102 < c := by
            unfold hexv at hv
            split at hv
            · cases hv
            · split at hv
              · cases hv
              · split at hv
                · cases hv
                · omega
          clear hv HR2
          rcases hc with a1 | ⟨a1, a2⟩ | ⟨a1, a2⟩ | a1
          · have g1 : ¬ 48 ≤ c := by omega
            have g2 : ¬ 97 ≤ c := by omega
            have g3 : ¬ 65 ≤ c := by omega
            go_wp2_with fail
            go_ret
            exact ⟨by rw [HN.o]; rfl, rfl⟩
          · have g1 : 48 ≤ c := by omega
            have g1' : ¬ c ≤ 57 := by omega
            have g2 : ¬ 97 ≤ c := by omega
            have g3 : ¬ 65 ≤ c := by omega
            go_wp2_with fail
            go_ret
            exact ⟨by rw [HN.o]; rfl, rfl⟩
          · have g1 : 48 ≤ c := by omega
            have g1' : ¬ c ≤ 57 := by omega
            have g2 : ¬ 97 ≤ c := by omega
            have g3 : 65 ≤ c := by omega
            have g3' : ¬ c ≤ 70 := by omega
            go_wp2_with fail
            go_ret
            exact ⟨by rw [HN.o]; rfl, rfl⟩
          · have g1 : 48 ≤ c := by omega
            have g1' : ¬ c ≤ 57 := by omega
            have g2 : 97 ≤ c := by omega
            have g2' : ¬ c ≤ 102 := by omega
            have g3 : 65 ≤ c := by omega
            have g3' : ¬ c ≤ 70 := by omega
            go_wp2_with fail
            go_ret
            exact ⟨by rw [HN.o]; rfl, rfl⟩
        | some d =>
          have hd := (hexv_lt hv).1
          have HN : Hq (R = hexGo s (4 - (k + 1)) (p + (k + 1)) (16 * acc + d)) := hq (by rw [HR2.o, hv, ← HJ.o]; rfl)
          have HB := hq (accBd_next hk4 hbd.o hd)
          have hc : (48 ≤ c ∧ c ≤ 57 ∧ d = c - 48) ∨ (97 ≤ c ∧ c ≤ 102 ∧ d = c - 87) ∨ (65 ≤ c ∧ c ≤ 70 ∧ d = c - 55) := by
            unfold hexv at hv
            split at hv
            · injection hv with hv; omega
            · split at hv
              · injection hv with hv; omega
              · split at hv
                · injection hv with hv; omega
                · cases hv
          clear hv HR2
          rcases hc with ⟨a1, a2, a3⟩ | ⟨a1, a2, a3⟩ | ⟨a1, a2, a3⟩
          · have A3 := hq a3
            clear a3
            go_wp2_with fail
            go_round
            case rel => exact ⟨k + 1, 16 * acc + d, by omega, int_eq (by have := A3.o; omega), int_eq (by omega), HN, HB⟩
            case measure => simp [intOf]; omega
          · have A3 := hq a3
            have g1' : ¬ c ≤ 57 := by omega
            have g1 : 48 ≤ c := by omega
            clear a3
            go_wp2_with fail
            go_round
            case rel => exact ⟨k + 1, 16 * acc + d, by omega, int_eq (by have := A3.o; omega), int_eq (by omega), HN, HB⟩
            case measure => simp [intOf]; omega
          · have A3 := hq a3
            have g1' : ¬ c ≤ 57 := by omega
            have g1 : 48 ≤ c := by omega
            have g2 : ¬ 97 ≤ c := by omega
            clear a3
            go_wp2_with fail
            go_round
            case rel => exact ⟨k + 1, 16 * acc + d, by omega, int_eq (by have := A3.o; omega), int_eq (by omega), HN, HB⟩
            case measure => simp [intOf]; omega
      · obtain rfl : k = 4 := by omega
        have HN : Hq (R = some acc) := hq (by rw [hR.o]; rfl)
        clear hR
        have h1 : ¬ (p : Int) + 4 < (p : Int) + 4 := by omega
        go_wp2_with fail
        go_ret
        exact ⟨by rw [HN.o]; rfl, rfl⟩
  · have HM : Hq (hexAt s p = none) := hq (by unfold hexAt; rw [if_neg h4])
    generalize hexAt s p = R at *
    have h4' : (s.size : Int) - 4 < (p : Int) := by omega
    clear h4
    go_enter Tryz.func86, Tryz.ntmps86
    go_wp2_with fail
    go_ret
    exact ⟨by rw [HM.o]; rfl, rfl⟩
set_option maxHeartbeats 400000 in
theorem rutfq_any (n : Int) (w : World) (h0 : 0 ≤ n) (h1 : n ≤ 1114111) :
    Calls Tryz.prog 87 #[.int .i64 n] w fun e w' => e = .returned (.string (Utf8.encode n)) ∧ w = w' := by
  go_enter Tryz.func87, Tryz.ntmps87
  go_wp2_with fail
  go_ret
  exact ⟨rfl, rfl⟩
def RescPost (o : Option (Nat × Nat)) (w : World) (e : Ending) (w' : World) : Prop := (e = .returned (.tuple #[.string (st ((o.map fun x => encB x.1).getD [])), .int .i64 (((o.getD (0, 0)).2 : Nat) : Int)])) ∧ Below w.heap.size w w'
theorem RescPost.no {o : Option (Nat × Nat)} {w w' : World} (h : o = none) (hw : Below w.heap.size w w') : RescPost o w (.returned (.tuple #[.string ⟨#[]⟩, .int .i64 0])) w' := by
  subst h; exact ⟨rfl, hw⟩
theorem RescPost.mk {o : Option (Nat × Nat)} {r n : Nat} {t : ByteArray} {b : Int} {w w' : World} (h : o = some (r, n)) (ht : t = st (encB r)) (hb : b = (n : Int)) (hw : Below w.heap.size w w') : RescPost o w (.returned (.tuple #[.string t, .int .i64 b])) w' := by
  subst h; subst ht; subst hb; exact ⟨rfl, hw⟩
theorem rbelow_drewN {B : Nat} {w w' : World} (h : Below B w w') (k : Nat) : Below B w (w'.drewN k) := below_drewN h k
abbrev escFrom : ByteArray := ⟨#[34, 92, 47, 98, 102, 110, 114, 116]⟩
abbrev escTo : ByteArray := ⟨#[34, 92, 47, 8, 12, 10, 13, 9]⟩
theorem esc_hit (s : ByteArray) (p k : Nat) (hk : k < 8) (h2 : ¬ s.size < p + 2) (h : byt s (p + 1) = byt escFrom k) : ∃ r, escM s p = some (r, 2) ∧ escTo.extract k (k + 1) = st (encB r) := by
  unfold escM
  rw [if_neg h2, h]
  match k, hk with
  | 0, _ => exact ⟨34, rfl, by decide +kernel⟩
  | 1, _ => exact ⟨92, rfl, by decide +kernel⟩
  | 2, _ => exact ⟨47, rfl, by decide +kernel⟩
  | 3, _ => exact ⟨8, rfl, by decide +kernel⟩
  | 4, _ => exact ⟨12, rfl, by decide +kernel⟩
  | 5, _ => exact ⟨10, rfl, by decide +kernel⟩
  | 6, _ => exact ⟨13, rfl, by decide +kernel⟩
  | 7, _ => exact ⟨9, rfl, by decide +kernel⟩
theorem esc_miss (s : ByteArray) (p : Nat) (h2 : ¬ s.size < p + 2) (h : ∀ k, k < 8 → byt s (p + 1) ≠ byt escFrom k) : escM s p = escU s p := by
  unfold escM
  have h0 : byt s (p + 1) ≠ 34 := h 0 (by omega)
  have h1 : byt s (p + 1) ≠ 92 := h 1 (by omega)
  have h3 : byt s (p + 1) ≠ 47 := h 2 (by omega)
  have h4 : byt s (p + 1) ≠ 98 := h 3 (by omega)
  have h5 : byt s (p + 1) ≠ 102 := h 4 (by omega)
  have h6 : byt s (p + 1) ≠ 110 := h 5 (by omega)
  have h7 : byt s (p + 1) ≠ 114 := h 6 (by omega)
  have h8 : byt s (p + 1) ≠ 116 := h 7 (by omega)
  rw [if_neg h2, if_neg (by omega), if_neg h4, if_neg h5, if_neg h6, if_neg h7, if_neg h8]
set_option maxHeartbeats 2000000 in
set_option maxRecDepth 1000000 in
theorem rescape_any (s : ByteArray) (p : Nat) (w : World) (hs : s.size ≤ 1099511627776) (hp : p < s.size) (h92 : byt s p = 92) :
    Calls Tryz.prog 72 #[.string s, .int .i64 (p : Int)] w (RescPost (escM s p) w) := by
  by_cases h2 : s.size < p + 2
  · have HN : Hq (escM s p = none) := hq (by unfold escM; rw [if_pos h2])
    generalize escM s p = R at *
    have h2' : (s.size : Int) ≤ (p : Int) + 1 := by omega
    clear h92 h2
    go_enter Tryz.func72, Tryz.ntmps72
    go_wp2_with fail
    go_ret2
    exact RescPost.no HN.o (Below.refl _ _)
  · have h2' : ¬ (s.size : Int) ≤ (p : Int) + 1 := by omega
    have hp1 : p + 1 < s.size := by omega
    have y1 : ((s[p + 1]'hp1).toNat : Int) = (byt s (p + 1) : Int) := by rw [byt_eq s (p + 1) hp1]
    have hz1 : ((p : Int) + 1).toNat = p + 1 := by omega
    have HIT := hq (esc_hit s p)
    have HMI := hq (esc_miss s p h2)
    have H92 := hq h92
    have H2 := hq h2
    clear h92 h2
    go_enter Tryz.func72, Tryz.ntmps72
    go_wp2_with fail
    go_loopw [8] (fun i wr => ∃ k : Nat, k ≤ 8 ∧ i = .int .i64 (k : Int) ∧ Hq (∀ j, j < k → byt s (p + 1) ≠ byt escFrom j) ∧ Below w.heap.size w wr) (fun i _ => (8 - (intOf i).toNat))
    case atStart => exact ⟨0, by omega, rfl, hq (fun j h => by omega), Below.refl _ _⟩
    case round =>
      obtain ⟨k, hk, rfl, hne, hb⟩ := hrel
      by_cases hk8 : k < 8
      · have hkF : k < escFrom.size := hk8
        have y2 : ((escFrom[k]'hkF).toNat : Int) = (byt escFrom k : Int) := by rw [byt_eq escFrom k hkF]
        by_cases he : byt s (p + 1) = byt escFrom k
        · obtain ⟨r, hr1, hr2⟩ := HIT.o k hk8 H2.o he
          have e1 : ((byt s (p + 1) : Int) == (byt escFrom k : Int)) = true := beq_iff_eq.2 (by omega)
          have HR1 := hq hr1
          have HR2 := hq hr2
          clear hr1 hr2 he HIT HMI
          generalize byt s (p + 1) = c at *
          generalize byt escFrom k = d at *
          go_wp2_with fail
          go_quiet (fail)
          have hzk : ((k : Int) + 1).toNat = k + 1 := by omega
          go_wp2_with fail
          go_ret2
          exact RescPost.mk HR1.o HR2.o rfl (rbelow_drewN hb _)
        · have e1 : ((byt s (p + 1) : Int) == (byt escFrom k : Int)) = false := beq_eq_false_iff_ne.2 (by omega)
          have HNE : Hq (∀ j, j < k + 1 → byt s (p + 1) ≠ byt escFrom j) := hq (fun j hj => by
            by_cases h : j < k
            · exact hne.o j h
            · obtain rfl : j = k := by omega
              exact he)
          clear he HIT HMI
          generalize byt s (p + 1) = c at *
          generalize byt escFrom k = d at *
          go_wp2_with fail
          go_quiet (fail)
          go_wp2_with fail
          go_roundw
          case rel => exact ⟨k + 1, by omega, int_eq (by omega), HNE, rbelow_drewN hb _⟩
          case measure => simp [intOf]; omega
      · obtain rfl : k = 8 := by omega
        have HM := hq (HMI.o hne.o)
        clear hne HIT HMI
        have u1 : escM s p = escU s p := HM.o
        generalize escM s p = R at *
        clear HM
        by_cases h117 : byt s (p + 1) = 117
        · have hu := uni_hex s p hp1 H92.o h117
          have e1 : ((byt s (p + 1) : Int) != 117) = false := by rw [h117]; rfl
          have HX := hq (fun W => rhex_any s (p + 2) W hs (by omega))
          have HL := hq (fun n => @hexAt_lt s (p + 2) n)
          have HU : Hq (R = match hexAt s (p + 2) with
            | none => none
            | some n => if 56320 ≤ n ∧ n ≤ 57343 then none else if n < 55296 ∨ 57343 < n then some (n, 6) else match uni s (p + 6) with
              | none => none
              | some m => if m < 56320 ∨ 57343 < m then none else some (65536 + (n - 55296) * 1024 + (m - 56320), 12)) := hq (by
            rw [u1]; unfold escU; rw [hu]
            cases hexAt s (p + 2) with
            | none => rfl
            | some n => cases uni s (p + 6) <;> rfl)
          have hz2 : ((p : Int) + 2).toNat = p + 2 := by omega
          have HC : Hq (∀ W, Calls Tryz.prog 86 #[.string s, .int .i64 ((p : Int) + 2)] W (HexPost (hexAt s (p + 2)) W)) := hq (fun W => HX.o W)
          clear u1 hu h117 HX hz2
          generalize byt s (p + 1) = c at *
          go_wp2_with fail
          refine (HC.o _).mono ?_
          rintro e w1 ⟨rfl, hw1⟩
          obtain rfl := hw1
          clear HC
          cases hx : hexAt s (p + 2) with
          | none =>
            have HN : Hq (R = none) := hq (by rw [HU.o, hx])
            clear HU HL hx
            simp only [hexZ]
            go_wp2_with fail
            go_ret2
            exact RescPost.no HN.o hb
          | some n =>
            have hn := HL.o n hx
            have HU2 : Hq (R = if 56320 ≤ n ∧ n ≤ 57343 then none else if n < 55296 ∨ 57343 < n then some (n, 6) else match uni s (p + 6) with
              | none => none
              | some m => if m < 56320 ∨ 57343 < m then none else some (65536 + (n - 55296) * 1024 + (m - 56320), 12)) := hq (by
              rw [HU.o, hx])
            clear HU HL hx
            simp only [hexZ]
            by_cases a1 : 56320 ≤ n
            · by_cases a2 : n < 57344
              · have HN : Hq (R = none) := hq (HU2.o.trans (if_pos ⟨a1, by omega⟩))
                clear HU2
                go_wp2_with fail
                go_ret2
                exact RescPost.no HN.o hb
              · have HN : Hq (R = some (n, 6)) := hq (HU2.o.trans ((if_neg (by omega)).trans (if_pos (by omega))))
                have a3 : ¬ n < 55296 := by omega
                have a4 : 57344 ≤ n := by omega
                clear HU2
                go_wp2_with fail
                refine (rutfq_any _ _ (by omega) (by omega)).mono ?_
                rintro e w1 ⟨rfl, hw1⟩
                obtain rfl := hw1
                rw [encB_st n (by omega)]
                go_wp2_with fail
                go_ret2
                exact RescPost.mk HN.o rfl rfl hb
            · by_cases a2 : n < 55296
              · have HN : Hq (R = some (n, 6)) := hq (HU2.o.trans ((if_neg (by omega)).trans (if_pos (by omega))))
                clear HU2
                go_wp2_with fail
                refine (rutfq_any _ _ (by omega) (by omega)).mono ?_
                rintro e w1 ⟨rfl, hw1⟩
                obtain rfl := hw1
                rw [encB_st n (by omega)]
                go_wp2_with fail
                go_ret2
                exact RescPost.mk HN.o rfl rfl hb
              · have a4 : ¬ 57344 ≤ n := by omega
                have HU3 : Hq (R = match uni s (p + 6) with
                  | none => none
                  | some m => if m < 56320 ∨ 57343 < m then none else some (65536 + (n - 55296) * 1024 + (m - 56320), 12)) := hq (by
                  rw [HU2.o, if_neg (by omega), if_neg (by omega)])
                clear HU2
                by_cases h7 : p + 7 < s.size
                · have y6 : ((s[p + 6]'(by omega)).toNat : Int) = (byt s (p + 6) : Int) := by rw [byt_eq s (p + 6) (by omega)]
                  have y7 : ((s[p + 7]'h7).toNat : Int) = (byt s (p + 7) : Int) := by rw [byt_eq s (p + 7) h7]
                  have z6 : ((p : Int) + 6).toNat = p + 6 := by omega
                  have z7 : ((p : Int) + 7).toNat = p + 7 := by omega
                  have e7 : ¬ (s.size : Int) ≤ (p : Int) + 7 := by omega
                  have hu := fun a b => uni_hex s (p + 6) (by omega) a b
                  have HHX := hq (fun W => rhex_any s (p + 8) W hs (by omega))
                  have HHL := hq (fun m => @hexAt_lt s (p + 8) m)
                  have H6 : Hq (byt s (p + 6) ≠ 92 → R = none) := hq (fun h => by
                    rw [HU3.o]; unfold uni; rw [if_neg (fun hh => h hh.2.1)])
                  have H7 : Hq (byt s (p + 7) ≠ 117 → R = none) := hq (fun h => by
                    rw [HU3.o]; unfold uni; rw [if_neg (fun hh => h hh.2.2)])
                  have H8 : Hq (byt s (p + 6) = 92 → byt s (p + 7) = 117 → R = match hexAt s (p + 8) with
                    | none => none
                    | some m => if m < 56320 ∨ 57343 < m then none else some (65536 + (n - 55296) * 1024 + (m - 56320), 12)) := hq (fun g1 g2 => by
                    rw [HU3.o, hu g1 g2])
                  clear hu HU3
                  generalize byt s (p + 6) = c6 at *
                  generalize byt s (p + 7) = c7 at *
                  by_cases g6 : c6 = 92
                  · have f6 : ((c6 : Int) != 92) = false := by rw [g6]; rfl
                    by_cases g7 : c7 = 117
                    · have f7 : ((c7 : Int) != 117) = false := by rw [g7]; rfl
                      have H9 := hq (H8.o g6 g7)
                      clear H6 H7 H8 g6 g7
                      go_wp2_with fail
                      refine (HHX.o _).mono ?_
                      rintro e w1 ⟨rfl, hw1⟩
                      obtain rfl := hw1
                      clear HHX
                      cases hx : hexAt s (p + 8) with
                      | none =>
                        have HN : Hq (R = none) := hq (by rw [H9.o, hx])
                        clear H9 HHL hx
                        simp only [hexZ]
                        go_wp2_with fail
                        go_ret2
                        exact RescPost.no HN.o hb
                      | some m =>
                        have hm := HHL.o m hx
                        have HN : Hq (R = if m < 56320 ∨ 57343 < m then none else some (65536 + (n - 55296) * 1024 + (m - 56320), 12)) := hq (by rw [H9.o, hx])
                        clear H9 HHL hx
                        simp only [hexZ]
                        by_cases b1 : m < 56320
                        · have HN2 : Hq (R = none) := hq (HN.o.trans (if_pos (.inl b1)))
                          clear HN
                          go_wp2_with fail
                          go_ret2
                          exact RescPost.no HN2.o hb
                        · by_cases b2 : 57344 ≤ m
                          · have HN2 : Hq (R = none) := hq (HN.o.trans (if_pos (.inr (by omega))))
                            clear HN
                            go_wp2_with fail
                            go_ret2
                            exact RescPost.no HN2.o hb
                          · have HN2 : Hq (R = some (65536 + (n - 55296) * 1024 + (m - 56320), 12)) := hq (HN.o.trans (if_neg (by omega)))
                            clear HN
                            have hU := fun W => rutfq_any (65536 + 1024 * ((n : Int) - 55296) + (m : Int) - 56320) W (by omega) (by omega)
                            have hE := encB_st (65536 + (n - 55296) * 1024 + (m - 56320)) (by omega)
                            rw [show ((65536 + (n - 55296) * 1024 + (m - 56320) : Nat) : Int) = 65536 + 1024 * ((n : Int) - 55296) + (m : Int) - 56320 by omega] at hE
                            rw [hE] at hU
                            clear hE
                            have q1 : (55296 : Int) ≤ (n : Int) := by omega
                            have q2 : (n : Int) < 56320 := by omega
                            have q3 : (56320 : Int) ≤ (m : Int) := by omega
                            have q4 : (m : Int) < 57344 := by omega
                            clear a1 a2 a4 b1 b2 hn hm
                            have HN3 : Hq (R = some (65536 + (n - 55296) * 1024 + (m - 56320), 12)) := HN2
                            obtain ⟨T, HT⟩ : ∃ T, Hq (T = st (encB (65536 + (n - 55296) * 1024 + (m - 56320)))) := ⟨_, hq rfl⟩
                            rw [← HT.o] at hU
                            clear HN2
                            generalize (n : Int) = z at *
                            generalize (m : Int) = y at *
                            have HUT := hq hU
                            clear hU
                            go_wp2_with fail
                            with_reducible refine (HUT.o _).mono ?_
                            rintro e w1 ⟨rfl, hw1⟩
                            obtain rfl := hw1
                            go_wp2_with fail
                            go_ret2
                            exact RescPost.mk HN3.o HT.o rfl hb
                    · have f7 : ((c7 : Int) != 117) = true := bne_iff_ne.2 (by omega)
                      have HN := hq (H7.o g7)
                      clear H6 H7 H8 g6 g7
                      go_wp2_with fail
                      go_ret2
                      exact RescPost.no HN.o hb
                  · have f6 : ((c6 : Int) != 92) = true := bne_iff_ne.2 (by omega)
                    have HN := hq (H6.o g6)
                    clear H6 H7 H8 g6
                    go_wp2_with fail
                    go_ret2
                    exact RescPost.no HN.o hb
                · have HN : Hq (R = none) := hq (by rw [HU3.o]; unfold uni; rw [if_neg (by omega)])
                  have e7 : (s.size : Int) ≤ (p : Int) + 7 := by omega
                  clear HU3
                  go_wp2_with fail
                  go_ret2
                  exact RescPost.no HN.o hb
        · have hu : uni s p = none := by unfold uni; rw [if_neg (fun h => h117 h.2.2)]
          have HN : Hq (R = none) := hq (by rw [u1]; unfold escU; rw [hu])
          have e1 : ((byt s (p + 1) : Int) != 117) = true := bne_iff_ne.2 (by omega)
          clear u1 hu h117
          generalize byt s (p + 1) = c at *
          go_wp2_with fail
          go_ret2
          exact RescPost.no HN.o hb
def readOf (x : Nat × Int × List Nat) : Bs × Nat × Int := if x.2.1 = 0 then (encAll x.2.2, x.1, 0) else ([], x.1, x.2.1)
set_option maxHeartbeats 2000000 in
set_option maxRecDepth 1000000 in
theorem rread_any (s : ByteArray) (a : Nat) (w : World) (hs : s.size ≤ 1099511627776) (ha : a ≤ s.size) :
    Calls Tryz.prog 52 #[.string s, .int .i64 (a : Int)] w (UnqPost (readOf (scanM s a)) w) := by
  by_cases hq0 : a < s.size ∧ byt s a = 34
  · have HM : Hq (readOf (scanM s a) = readOf (scanGo s s.size (a + 1) [])) := hq (by unfold scanM; rw [if_pos hq0])
    obtain ⟨hlt, h34⟩ := hq0
    have y0 : ((s[a]'hlt).toNat : Int) = (byt s a : Int) := by rw [byt_eq s a hlt]
    have e1 : ((byt s a : Int) != 34) = false := by rw [h34]; rfl
    have ea : decide (s.size ≤ a) = false := decide_eq_false (by omega)
    generalize readOf (scanM s a) = R at *
    generalize byt s a = c at *
    clear h34
    go_enter Tryz.func52, Tryz.ntmps52
    go_wp2_with fail
    clear y0 e1
    go_loopw [7, 8] (fun o i wr => ∃ (k f : Nat) (acc : List Nat), k ≤ s.size ∧ o = .string (st (encAll acc)) ∧ i = .int .i64 (k : Int) ∧ Hq (R = readOf (scanGo s f k acc)) ∧ s.size ≤ k + f ∧ (encAll acc).length ≤ 4 * k ∧ Below w.heap.size w wr) (fun _ i _ => (s.size - (intOf i).toNat))
    case atStart => exact ⟨a + 1, s.size, [], by omega, rfl, int_eq (by omega), HM, by omega, Nat.zero_le _, Below.refl _ _⟩
    case round =>
      obtain ⟨k, f, acc, hk, rfl, rfl, hR, hf, hln, hb⟩ := hrel
      clear HM
      have hsz : (st (encAll acc)).size ≤ 4 * k := by rw [st_size]; exact hln
      by_cases hkl : k < s.size
      · have y0 : ((s[k]'hkl).toNat : Int) = (byt s k : Int) := by rw [byt_eq s k hkl]
        obtain ⟨f, rfl⟩ : ∃ g, f = g + 1 := ⟨f - 1, by omega⟩
        have HR2 : Hq (R = readOf (if byt s k = 34 then (k + 1, 0, acc) else match partM s k with | none => (k, 2, acc) | some x => scanGo s f (k + x.2) (acc ++ [x.1]))) := hq (by
          rw [hR.o, scanGo, if_pos hkl]
          by_cases h34 : byt s k = 34
          · rw [if_pos h34, if_pos h34]
          · rw [if_neg h34, if_neg h34]
            cases partM s k <;> rfl)
        clear hR
        by_cases h34 : byt s k = 34
        · have e34 : ((byt s k : Int) == 34) = true := by rw [h34]; rfl
          have HN : Hq (R = (encAll acc, k + 1, 0)) := hq (by rw [HR2.o, if_pos h34]; rfl)
          clear HR2 h34
          generalize byt s k = c at *
          go_wp2_with fail
          go_ret3
          exact ⟨by rw [HN.o]; rfl, hb⟩
        · have e34 : ((byt s k : Int) == 34) = false := beq_eq_false_iff_ne.2 (by omega)
          have HR3 : Hq (R = readOf (match partM s k with | none => (k, 2, acc) | some x => scanGo s f (k + x.2) (acc ++ [x.1]))) := hq (by
            rw [HR2.o, if_neg h34])
          clear HR2 h34
          have HPB := hq (fun r n => @partM_bd s k r n hkl)
          by_cases h92 : byt s k = 92
          · have e92 : ((byt s k : Int) == 92) = true := by rw [h92]; rfl
            have HE := hq (fun W => rescape_any s k W hs hkl h92)
            have hpm : partM s k = escM s k := by unfold partM; rw [if_pos h92]
            rw [hpm] at HR3 HPB
            generalize escM s k = o at *
            clear h92 hpm
            generalize byt s k = c at *
            go_wp2_with fail
            refine (HE.o _).mono ?_
            clear HE
            cases o with
            | none =>
              rintro e w2 ⟨rfl, hb2⟩
              have HN : Hq (R = ([], k, 2)) := hq HR3.o
              have hb3 := below_trans hb hb2
              clear HR3 HPB hb2
              simp only [Option.map_none, Option.getD_none]
              go_wp2_with fail
              go_ret3
              exact ⟨by rw [HN.o]; rfl, hb3⟩
            | some x =>
              obtain ⟨r, n⟩ := x
              rintro e w2 ⟨rfl, hb2⟩
              obtain ⟨p1, p2, p3, p4, _⟩ := HPB.o r n rfl
              have HN : Hq (R = readOf (scanGo s f (k + n) (acc ++ [r]))) := hq HR3.o
              have hb3 := below_trans hb hb2
              have hl := encB_len r
              have hsz2 : (st (encB r)).size ≤ 4 := by rw [st_size]; exact hl
              have hn0 : ((n : Int) == 0) = false := beq_eq_false_iff_ne.2 (by omega)
              have HS := hq (show st (encAll acc) ++ st (encB r) = st (encAll (acc ++ [r])) by rw [cat_bytes, encAll_snoc])
              have hln2 : (encAll (acc ++ [r])).length ≤ 4 * (k + n) := by rw [encAll_snoc, List.length_append]; omega
              clear HR3 HPB hb2
              simp only [Option.map_some, Option.getD_some]
              go_wp2_with fail
              go_roundw
              case rel => exact ⟨k + n, f, acc ++ [r], p4, congrArg Value.string HS.o, int_eq (by omega), HN, by omega, hln2, hb3⟩
              case measure => simp [intOf]; omega
          · have e92 : ((byt s k : Int) == 92) = false := beq_eq_false_iff_ne.2 (by omega)
            have hpm : partM s k = if byt s k < 32 then none else if bad s k then none else some (Utf8.decode s k) := by unfold partM; rw [if_neg h92]
            have HG := hq (fun W => rgood_any s k W (by unfold maxLen; omega) hkl)
            have HX := hq (fun W => rnext_any s (k : Int) W (by unfold maxLen; omega) (by omega))
            have hnt : nxt s k = (((Utf8.decode s k).1 : Int), ((Utf8.decode s k).2 : Int)) := nxt_in s k hkl
            rw [hnt] at HX
            have hwl := wd_le s k hkl
            have hwp := wd_pos s k
            unfold wd at hwl hwp
            have HENC : Hq (¬ bad s k → s.extract k (k + (Utf8.decode s k).2) = st (encB (Utf8.decode s k).1)) := hq (fun h => by
              rw [← enc_dec s k hkl h]
              exact encB_st _ (dec_fine s k h))
            rw [hpm] at HR3
            clear HPB hnt hpm h92
            by_cases hbad : bad s k
            · have HN : Hq (R = ([], k, 2)) := hq (by
                rw [HR3.o]
                by_cases h32 : byt s k < 32
                · rw [if_pos h32]; rfl
                · rw [if_neg h32, if_pos hbad]; rfl)
              have hd : decide (¬ bad s k) = false := decide_eq_false (fun h => h hbad)
              rw [hd] at HG
              clear HR3 HENC hbad hd HX
              generalize byt s k = c at *
              go_wp2_with fail
              refine (HG.o _).mono ?_
              rintro e w2 ⟨rfl, hw2⟩
              obtain rfl := hw2
              clear HG
              by_cases h32 : c < 32
              · go_wp2_with fail
                go_ret3
                exact ⟨by rw [HN.o]; rfl, hb⟩
              · go_wp2_with fail
                go_ret3
                exact ⟨by rw [HN.o]; rfl, hb⟩
            · have hd : decide (¬ bad s k) = true := decide_eq_true hbad
              rw [hd] at HG
              by_cases h32 : byt s k < 32
              · have HN : Hq (R = ([], k, 2)) := hq (by rw [HR3.o, if_pos h32]; rfl)
                clear HR3 HENC hbad hd HX
                generalize byt s k = c at *
                go_wp2_with fail
                refine (HG.o _).mono ?_
                rintro e w2 ⟨rfl, hw2⟩
                obtain rfl := hw2
                clear HG
                go_wp2_with fail
                go_ret3
                exact ⟨by rw [HN.o]; rfl, hb⟩
              · have HN : Hq (R = readOf (scanGo s f (k + (Utf8.decode s k).2) (acc ++ [(Utf8.decode s k).1]))) := hq (by rw [HR3.o, if_neg h32, if_neg hbad])
                have HE2 := hq (HENC.o hbad)
                clear HR3 HENC hbad hd
                generalize byt s k = c at *
                generalize (Utf8.decode s k).1 = C at *
                generalize (Utf8.decode s k).2 = K at *
                have hl := encB_len C
                have hsz2 : (s.extract k (k + K)).size ≤ 4 := by rw [HE2.o, st_size]; exact hl
                have HS := hq (show st (encAll acc) ++ s.extract k (k + K) = st (encAll (acc ++ [C])) by rw [HE2.o, cat_bytes, encAll_snoc])
                have hln2 : (encAll (acc ++ [C])).length ≤ 4 * (k + K) := by rw [encAll_snoc, List.length_append]; omega
                go_wp2_with fail
                refine (HG.o _).mono ?_
                rintro e w2 ⟨rfl, hw2⟩
                obtain rfl := hw2
                clear HG HE2
                go_wp2_with fail
                refine (HX.o _).mono ?_
                rintro e w2 ⟨rfl, hw2⟩
                obtain rfl := hw2
                clear HX
                have hzk : ((k : Int) + (K : Int)).toNat = k + K := by omega
                go_wp2_with fail
                go_roundw
                case rel => exact ⟨k + K, f, acc ++ [C], hwl, congrArg Value.string HS.o, int_eq (by omega), HN, by omega, hln2, hb⟩
                case measure => simp [intOf]; omega
      · obtain rfl : k = s.size := by omega
        have HN : Hq (R = ([], s.size, 2)) := hq (by
          rw [hR.o]
          cases f with
          | zero => rfl
          | succ f => rw [scanGo, if_neg (Nat.lt_irrefl _)]; rfl)
        clear hR
        go_wp2_with fail
        go_ret3
        exact ⟨by rw [HN.o]; rfl, hb⟩
  · have HM : Hq (readOf (scanM s a) = ([], a, 2)) := hq (by unfold scanM; rw [if_neg hq0]; rfl)
    generalize readOf (scanM s a) = R at *
    by_cases hlt : a < s.size
    · have y0 : ((s[a]'hlt).toNat : Int) = (byt s a : Int) := by rw [byt_eq s a hlt]
      have e1 : ((byt s a : Int) != 34) = true := bne_iff_ne.2 (fun h => hq0 ⟨hlt, by omega⟩)
      generalize byt s a = c at *
      clear hq0
      go_enter Tryz.func52, Tryz.ntmps52
      go_wp2_with fail
      go_ret3
      exact ⟨by rw [HM.o]; rfl, Below.refl _ _⟩
    · obtain rfl : a = s.size := by omega
      clear hq0
      go_enter Tryz.func52, Tryz.ntmps52
      go_wp2_with fail
      go_ret3
      exact ⟨by rw [HM.o]; rfl, Below.refl _ _⟩
set_option maxHeartbeats 1000000 in
set_option maxRecDepth 1000000 in
theorem rend_any (s : ByteArray) (a : Int) (w : World) (hs : s.size ≤ 1099511627776) (ha : -9223372036854775808 ≤ a ∧ a ≤ 9223372036854775807) :
    Calls Tryz.prog 34 #[.string s, .int .i64 a] w (ScanPost (endM s a) w) := by
  obtain ⟨ha1, ha2⟩ := ha
  by_cases h0 : a < 0
  · have HN : Hq (endM s a = (0, 2)) := hq (by unfold endM; rw [if_pos (.inl h0)])
    generalize endM s a = R at *
    go_enter Tryz.func34, Tryz.ntmps34
    go_wp2_with fail
    go_ret2
    exact ⟨by rw [HN.o]; rfl, Below.refl _ _⟩
  · by_cases h1 : (s.size : Int) < a
    · have HN : Hq (endM s a = (0, 2)) := hq (by unfold endM; rw [if_pos (.inr h1)])
      generalize endM s a = R at *
      go_enter Tryz.func34, Tryz.ntmps34
      go_wp2_with fail
      go_ret2
      exact ⟨by rw [HN.o]; rfl, Below.refl _ _⟩
    · obtain ⟨k, rfl⟩ := Int.eq_ofNat_of_zero_le (Int.not_lt.1 h0)
      have HN : Hq (endM s k = ((readOf (scanM s k)).2.1, (readOf (scanM s k)).2.2)) := hq (by
        unfold endM readOf; rw [if_neg (by omega)]
        rw [show ((k : Int)).toNat = k by omega]
        by_cases h : (scanM s k).2.1 = 0
        · rw [if_pos h]; simp only [h]
        · rw [if_neg h])
      have hks : k ≤ s.size := by omega
      have HSC := hq (rread_any s k w hs hks)
      generalize endM s k = R at *
      generalize readOf (scanM s k) = x at *
      obtain ⟨x1, x2, x3⟩ := x
      clear h0 h1
      have h0 : ¬ (k : Int) < 0 := by omega
      have h1 : (k : Int) ≤ (s.size : Int) := by omega
      go_enter Tryz.func34, Tryz.ntmps34
      go_wp2_with fail
      refine HSC.o.mono ?_
      rintro e w1 ⟨rfl, hb1⟩
      clear HSC
      go_wp2_with fail
      go_ret2
      exact ⟨by rw [HN.o]; rfl, hb1⟩
set_option maxHeartbeats 1000000 in
set_option maxRecDepth 1000000 in
theorem runquote_any (s : ByteArray) (w : World) (hs : s.size ≤ 1099511627776) :
    Calls Tryz.prog 35 #[.string s] w (UnqPost (unquoteM s) w) := by
  have HC := hq (rread_any s 0 w hs (Nat.zero_le _))
  have HC' : Hq (Calls Tryz.prog 52 #[.string s, .int .i64 0] w (UnqPost (readOf (scanM s 0)) w)) := hq HC.o
  have hbd : (scanM s 0).1 ≤ s.size := by
    unfold scanM
    split
    · exact (scanGo_ok s _ _ [] (fun x hx => by cases hx)).2
    · exact Nat.zero_le _
  have HU : Hq (unquoteM s = if (readOf (scanM s 0)).2.2 = 0 then (if (readOf (scanM s 0)).2.1 < s.size then ([], (readOf (scanM s 0)).2.1, 2) else readOf (scanM s 0)) else readOf (scanM s 0)) := hq (by
    unfold unquoteM readOf
    generalize scanM s 0 = x at *
    by_cases h : x.2.1 = 0
    · rw [if_pos h]
      simp only
      rw [if_neg (fun hh => hh h), if_pos trivial]
      by_cases h2 : x.1 < s.size
      · rw [if_pos h2, if_pos (by omega)]
      · rw [if_neg h2, if_neg (by omega)]
    · rw [if_neg h]
      simp only
      rw [if_pos h, if_neg h])
  clear HC
  generalize unquoteM s = U at *
  generalize readOf (scanM s 0) = x at *
  obtain ⟨x1, x2, x3⟩ := x
  clear hbd
  go_enter Tryz.func35, Tryz.ntmps35
  go_wp2_with fail
  refine HC'.o.mono ?_
  rintro e w2 ⟨rfl, hb⟩
  clear HC'
  by_cases h : x3 = 0
  · have e1 : (x3 == 0) = true := by rw [h]; rfl
    by_cases h2 : x2 < s.size
    · have HN := hq (HU.o.trans ((if_pos h).trans (if_pos h2)))
      clear HU h
      go_wp2_with fail
      go_ret3
      exact ⟨by rw [HN.o]; rfl, hb⟩
    · have HN := hq (HU.o.trans ((if_pos h).trans (if_neg h2)))
      clear HU h
      go_wp2_with fail
      go_ret3
      exact ⟨by rw [HN.o]; rfl, hb⟩
  · have e1 : (x3 == 0) = false := beq_eq_false_iff_ne.2 h
    have HN := hq (HU.o.trans (if_neg h))
    clear HU h
    go_wp2_with fail
    go_ret3
    exact ⟨by rw [HN.o]; rfl, hb⟩
def inSet (l : ByteArray) (c : Nat) : Nat → Bool
  | 0 => false
  | k + 1 => inSet l c k || (byt l k == c)
def SetIn (S : ByteArray) (q : Nat → Bool) : Prop := ∀ c : Nat, c < 256 → inSet S c S.size = q c
abbrev setHead : ByteArray := ⟨#[45, 48, 49, 50, 51, 52, 53, 54, 55, 56, 57]⟩
def isHead (c : Nat) : Bool := c == 45 || (decide (48 ≤ c) && decide (c ≤ 57))
abbrev signsS : ByteArray := ⟨#[123, 125, 91, 93, 44, 58]⟩
end Go.Proofs.YtmadgdafgkleiaaGreatDoor

