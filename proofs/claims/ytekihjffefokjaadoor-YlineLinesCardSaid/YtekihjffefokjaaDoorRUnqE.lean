/-
  WALKS: the document's escape.
-/
import Derived.Test.YtekihjffefokjaaDoorRUnqH
import Derived.BigQuiet
import Derived.Deep.QuietTactic
namespace Go.Proofs.YtekihjffefokjaaDoor
open Go.RowKit

def RescPost (o : Option (Nat × Nat)) (w : World) (e : Ending) (w' : World) : Prop := (e = .returned (.tuple #[.string (st ((o.map fun x => encB x.1).getD [])), .int .i64 (((o.getD (0, 0)).2 : Nat) : Int)])) ∧ Below w.heap.size w w'
theorem RescPost.no {o : Option (Nat × Nat)} {w w' : World} (h : o = none) (hw : Below w.heap.size w w') : RescPost o w (.returned (.tuple #[.string ⟨#[]⟩, .int .i64 0])) w' := by
  subst h; exact ⟨rfl, hw⟩
theorem RescPost.mk {o : Option (Nat × Nat)} {r n : Nat} {t : ByteArray} {b : Int} {w w' : World} (h : o = some (r, n)) (ht : t = st (encB r)) (hb : b = (n : Int)) (hw : Below w.heap.size w w') : RescPost o w (.returned (.tuple #[.string t, .int .i64 b])) w' := by
  subst h; subst ht; subst hb; exact ⟨rfl, hw⟩

theorem rbelow_drewN {B : Nat} {w w' : World} (h : Below B w w') (k : Nat) : Below B w (w'.drewN k) := below_drewN h k
abbrev escFrom : ByteArray := ⟨#[34, 92, 47, 98, 102, 110, 114, 116]⟩
abbrev escTo : ByteArray := ⟨#[34, 92, 47, 8, 12, 10, 13, 9]⟩
theorem esc_hit (s : ByteArray) (p k : Nat) (hk : k < 8) (h2 : ¬ s.size < p + 2) (h : byt s (p + 1) = byt escFrom k) : ∃ r, escM s p = some (r, 2) ∧ escTo.extract k (k + 1) = st (encB r) := by
  unfold escM
  rw [if_neg h2, h]
  match k, hk with
  | 0, _ => exact ⟨34, rfl, by decide +kernel⟩
  | 1, _ => exact ⟨92, rfl, by decide +kernel⟩
  | 2, _ => exact ⟨47, rfl, by decide +kernel⟩
  | 3, _ => exact ⟨8, rfl, by decide +kernel⟩
  | 4, _ => exact ⟨12, rfl, by decide +kernel⟩
  | 5, _ => exact ⟨10, rfl, by decide +kernel⟩
  | 6, _ => exact ⟨13, rfl, by decide +kernel⟩
  | 7, _ => exact ⟨9, rfl, by decide +kernel⟩
theorem esc_miss (s : ByteArray) (p : Nat) (h2 : ¬ s.size < p + 2) (h : ∀ k, k < 8 → byt s (p + 1) ≠ byt escFrom k) : escM s p = escU s p := by
  unfold escM
  have h0 : byt s (p + 1) ≠ 34 := h 0 (by omega)
  have h1 : byt s (p + 1) ≠ 92 := h 1 (by omega)
  have h3 : byt s (p + 1) ≠ 47 := h 2 (by omega)
  have h4 : byt s (p + 1) ≠ 98 := h 3 (by omega)
  have h5 : byt s (p + 1) ≠ 102 := h 4 (by omega)
  have h6 : byt s (p + 1) ≠ 110 := h 5 (by omega)
  have h7 : byt s (p + 1) ≠ 114 := h 6 (by omega)
  have h8 : byt s (p + 1) ≠ 116 := h 7 (by omega)
  rw [if_neg h2, if_neg (by omega), if_neg h4, if_neg h5, if_neg h6, if_neg h7, if_neg h8]

set_option maxHeartbeats 2000000 in
set_option maxRecDepth 1000000 in
theorem rescape_any (s : ByteArray) (p : Nat) (w : World) (hs : s.size ≤ 1099511627776) (hp : p < s.size) (h92 : byt s p = 92) :
    Calls Tryd.prog 120 #[.string s, .int .i64 (p : Int)] w (RescPost (escM s p) w) := by
  by_cases h2 : s.size < p + 2
  · have HN : Hq (escM s p = none) := hq (by unfold escM; rw [if_pos h2])
    generalize escM s p = R at *
    have h2' : (s.size : Int) ≤ (p : Int) + 1 := by omega
    clear h92 h2
    go_enter Tryd.func120, Tryd.ntmps120
    go_wp2_with fail
    go_ret2
    exact RescPost.no HN.o (Below.refl _ _)
  · have h2' : ¬ (s.size : Int) ≤ (p : Int) + 1 := by omega
    have hp1 : p + 1 < s.size := by omega
    have y1 : ((s[p + 1]'hp1).toNat : Int) = (byt s (p + 1) : Int) := by rw [byt_eq s (p + 1) hp1]
    have hz1 : ((p : Int) + 1).toNat = p + 1 := by omega
    have HIT := hq (esc_hit s p)
    have HMI := hq (esc_miss s p h2)
    have H92 := hq h92
    have H2 := hq h2
    clear h92 h2
    go_enter Tryd.func120, Tryd.ntmps120
    go_wp2_with fail
    go_loopw [8] (fun i wr => ∃ k : Nat, k ≤ 8 ∧ i = .int .i64 (k : Int) ∧ Hq (∀ j, j < k → byt s (p + 1) ≠ byt escFrom j) ∧ Below w.heap.size w wr) (fun i _ => (8 - (intOf i).toNat))
    case atStart => exact ⟨0, by omega, rfl, hq (fun j h => by omega), Below.refl _ _⟩
    case round =>
      obtain ⟨k, hk, rfl, hne, hb⟩ := hrel
      by_cases hk8 : k < 8
      · have hkF : k < escFrom.size := hk8
        have y2 : ((escFrom[k]'hkF).toNat : Int) = (byt escFrom k : Int) := by rw [byt_eq escFrom k hkF]
        by_cases he : byt s (p + 1) = byt escFrom k
        · obtain ⟨r, hr1, hr2⟩ := HIT.o k hk8 H2.o he
          have e1 : ((byt s (p + 1) : Int) == (byt escFrom k : Int)) = true := beq_iff_eq.2 (by omega)
          have HR1 := hq hr1
          have HR2 := hq hr2
          clear hr1 hr2 he HIT HMI
          generalize byt s (p + 1) = c at *
          generalize byt escFrom k = d at *
          go_wp2_with fail
          go_quiet (fail)
          have hzk : ((k : Int) + 1).toNat = k + 1 := by omega
          go_wp2_with fail
          go_ret2
          exact RescPost.mk HR1.o HR2.o rfl (rbelow_drewN hb _)
        · have e1 : ((byt s (p + 1) : Int) == (byt escFrom k : Int)) = false := beq_eq_false_iff_ne.2 (by omega)
          have HNE : Hq (∀ j, j < k + 1 → byt s (p + 1) ≠ byt escFrom j) := hq (fun j hj => by
            by_cases h : j < k
            · exact hne.o j h
            · obtain rfl : j = k := by omega
              exact he)
          clear he HIT HMI
          generalize byt s (p + 1) = c at *
          generalize byt escFrom k = d at *
          go_wp2_with fail
          go_quiet (fail)
          go_wp2_with fail
          go_roundw
          case rel => exact ⟨k + 1, by omega, int_eq (by omega), HNE, rbelow_drewN hb _⟩
          case measure => simp [intOf]; omega
      · obtain rfl : k = 8 := by omega
        have HM := hq (HMI.o hne.o)
        clear hne HIT HMI
        have u1 : escM s p = escU s p := HM.o
        generalize escM s p = R at *
        clear HM
        by_cases h117 : byt s (p + 1) = 117
        · have hu := uni_hex s p hp1 H92.o h117
          have e1 : ((byt s (p + 1) : Int) != 117) = false := by rw [h117]; rfl
          have HX := hq (fun W => rhex_any s (p + 2) W hs (by omega))
          have HL := hq (fun n => @hexAt_lt s (p + 2) n)
          have HU : Hq (R = match hexAt s (p + 2) with
            | none => none
            | some n => if 56320 ≤ n ∧ n ≤ 57343 then none else if n < 55296 ∨ 57343 < n then some (n, 6) else match uni s (p + 6) with
              | none => none
              | some m => if m < 56320 ∨ 57343 < m then none else some (65536 + (n - 55296) * 1024 + (m - 56320), 12)) := hq (by
            rw [u1]; unfold escU; rw [hu]
            cases hexAt s (p + 2) with
            | none => rfl
            | some n => cases uni s (p + 6) <;> rfl)
          have hz2 : ((p : Int) + 2).toNat = p + 2 := by omega
          have HC : Hq (∀ W, Calls Tryd.prog 139 #[.string s, .int .i64 ((p : Int) + 2)] W (HexPost (hexAt s (p + 2)) W)) := hq (fun W => HX.o W)
          clear u1 hu h117 HX hz2
          generalize byt s (p + 1) = c at *
          go_wp2_with fail
          refine (HC.o _).mono ?_
          rintro e w1 ⟨rfl, hw1⟩
          obtain rfl := hw1
          clear HC
          cases hx : hexAt s (p + 2) with
          | none =>
            have HN : Hq (R = none) := hq (by rw [HU.o, hx])
            clear HU HL hx
            simp only [hexZ]
            go_wp2_with fail
            go_ret2
            exact RescPost.no HN.o hb
          | some n =>
            have hn := HL.o n hx
            have HU2 : Hq (R = if 56320 ≤ n ∧ n ≤ 57343 then none else if n < 55296 ∨ 57343 < n then some (n, 6) else match uni s (p + 6) with
              | none => none
              | some m => if m < 56320 ∨ 57343 < m then none else some (65536 + (n - 55296) * 1024 + (m - 56320), 12)) := hq (by
              rw [HU.o, hx])
            clear HU HL hx
            simp only [hexZ]
            by_cases a1 : 56320 ≤ n
            · by_cases a2 : n < 57344
              · have HN : Hq (R = none) := hq (HU2.o.trans (if_pos ⟨a1, by omega⟩))
                clear HU2
                go_wp2_with fail
                go_ret2
                exact RescPost.no HN.o hb
              · have HN : Hq (R = some (n, 6)) := hq (HU2.o.trans ((if_neg (by omega)).trans (if_pos (by omega))))
                have a3 : ¬ n < 55296 := by omega
                have a4 : 57344 ≤ n := by omega
                clear HU2
                go_wp2_with fail
                refine (rutf_any _ _ (by omega) (by omega)).mono ?_
                rintro e w1 ⟨rfl, hw1⟩
                obtain rfl := hw1
                rw [encB_st n (by omega)]
                go_wp2_with fail
                go_ret2
                exact RescPost.mk HN.o rfl rfl hb
            · by_cases a2 : n < 55296
              · have HN : Hq (R = some (n, 6)) := hq (HU2.o.trans ((if_neg (by omega)).trans (if_pos (by omega))))
                clear HU2
                go_wp2_with fail
                refine (rutf_any _ _ (by omega) (by omega)).mono ?_
                rintro e w1 ⟨rfl, hw1⟩
                obtain rfl := hw1
                rw [encB_st n (by omega)]
                go_wp2_with fail
                go_ret2
                exact RescPost.mk HN.o rfl rfl hb
              · have a4 : ¬ 57344 ≤ n := by omega
                have HU3 : Hq (R = match uni s (p + 6) with
                  | none => none
                  | some m => if m < 56320 ∨ 57343 < m then none else some (65536 + (n - 55296) * 1024 + (m - 56320), 12)) := hq (by
                  rw [HU2.o, if_neg (by omega), if_neg (by omega)])
                clear HU2
                by_cases h7 : p + 7 < s.size
                · have y6 : ((s[p + 6]'(by omega)).toNat : Int) = (byt s (p + 6) : Int) := by rw [byt_eq s (p + 6) (by omega)]
                  have y7 : ((s[p + 7]'h7).toNat : Int) = (byt s (p + 7) : Int) := by rw [byt_eq s (p + 7) h7]
                  have z6 : ((p : Int) + 6).toNat = p + 6 := by omega
                  have z7 : ((p : Int) + 7).toNat = p + 7 := by omega
                  have e7 : ¬ (s.size : Int) ≤ (p : Int) + 7 := by omega
                  have hu := fun a b => uni_hex s (p + 6) (by omega) a b
                  have HHX := hq (fun W => rhex_any s (p + 8) W hs (by omega))
                  have HHL := hq (fun m => @hexAt_lt s (p + 8) m)
                  have H6 : Hq (byt s (p + 6) ≠ 92 → R = none) := hq (fun h => by
                    rw [HU3.o]; unfold uni; rw [if_neg (fun hh => h hh.2.1)])
                  have H7 : Hq (byt s (p + 7) ≠ 117 → R = none) := hq (fun h => by
                    rw [HU3.o]; unfold uni; rw [if_neg (fun hh => h hh.2.2)])
                  have H8 : Hq (byt s (p + 6) = 92 → byt s (p + 7) = 117 → R = match hexAt s (p + 8) with
                    | none => none
                    | some m => if m < 56320 ∨ 57343 < m then none else some (65536 + (n - 55296) * 1024 + (m - 56320), 12)) := hq (fun g1 g2 => by
                    rw [HU3.o, hu g1 g2])
                  clear hu HU3
                  generalize byt s (p + 6) = c6 at *
                  generalize byt s (p + 7) = c7 at *
                  by_cases g6 : c6 = 92
                  · have f6 : ((c6 : Int) != 92) = false := by rw [g6]; rfl
                    by_cases g7 : c7 = 117
                    · have f7 : ((c7 : Int) != 117) = false := by rw [g7]; rfl
                      have H9 := hq (H8.o g6 g7)
                      clear H6 H7 H8 g6 g7
                      go_wp2_with fail
                      refine (HHX.o _).mono ?_
                      rintro e w1 ⟨rfl, hw1⟩
                      obtain rfl := hw1
                      clear HHX
                      cases hx : hexAt s (p + 8) with
                      | none =>
                        have HN : Hq (R = none) := hq (by rw [H9.o, hx])
                        clear H9 HHL hx
                        simp only [hexZ]
                        go_wp2_with fail
                        go_ret2
                        exact RescPost.no HN.o hb
                      | some m =>
                        have hm := HHL.o m hx
                        have HN : Hq (R = if m < 56320 ∨ 57343 < m then none else some (65536 + (n - 55296) * 1024 + (m - 56320), 12)) := hq (by rw [H9.o, hx])
                        clear H9 HHL hx
                        simp only [hexZ]
                        by_cases b1 : m < 56320
                        · have HN2 : Hq (R = none) := hq (HN.o.trans (if_pos (.inl b1)))
                          clear HN
                          go_wp2_with fail
                          go_ret2
                          exact RescPost.no HN2.o hb
                        · by_cases b2 : 57344 ≤ m
                          · have HN2 : Hq (R = none) := hq (HN.o.trans (if_pos (.inr (by omega))))
                            clear HN
                            go_wp2_with fail
                            go_ret2
                            exact RescPost.no HN2.o hb
                          · have HN2 : Hq (R = some (65536 + (n - 55296) * 1024 + (m - 56320), 12)) := hq (HN.o.trans (if_neg (by omega)))
                            clear HN
                            have hU := fun W => rutf_any (65536 + 1024 * ((n : Int) - 55296) + (m : Int) - 56320) W (by omega) (by omega)
                            have hE := encB_st (65536 + (n - 55296) * 1024 + (m - 56320)) (by omega)
                            rw [show ((65536 + (n - 55296) * 1024 + (m - 56320) : Nat) : Int) = 65536 + 1024 * ((n : Int) - 55296) + (m : Int) - 56320 by omega] at hE
                            rw [hE] at hU
                            clear hE
                            have q1 : (55296 : Int) ≤ (n : Int) := by omega
                            have q2 : (n : Int) < 56320 := by omega
                            have q3 : (56320 : Int) ≤ (m : Int) := by omega
                            have q4 : (m : Int) < 57344 := by omega
                            clear a1 a2 a4 b1 b2 hn hm
                            have HN3 : Hq (R = some (65536 + (n - 55296) * 1024 + (m - 56320), 12)) := HN2
                            obtain ⟨T, HT⟩ : ∃ T, Hq (T = st (encB (65536 + (n - 55296) * 1024 + (m - 56320)))) := ⟨_, hq rfl⟩
                            rw [← HT.o] at hU
                            clear HN2
                            generalize (n : Int) = z at *
                            generalize (m : Int) = y at *
                            have HUT := hq hU
                            clear hU
                            go_wp2_with fail
                            with_reducible refine (HUT.o _).mono ?_
                            rintro e w1 ⟨rfl, hw1⟩
                            obtain rfl := hw1
                            go_wp2_with fail
                            go_ret2
                            exact RescPost.mk HN3.o HT.o rfl hb
                    · have f7 : ((c7 : Int) != 117) = true := bne_iff_ne.2 (by omega)
                      have HN := hq (H7.o g7)
                      clear H6 H7 H8 g6 g7
                      go_wp2_with fail
                      go_ret2
                      exact RescPost.no HN.o hb
                  · have f6 : ((c6 : Int) != 92) = true := bne_iff_ne.2 (by omega)
                    have HN := hq (H6.o g6)
                    clear H6 H7 H8 g6
                    go_wp2_with fail
                    go_ret2
                    exact RescPost.no HN.o hb
                · have HN : Hq (R = none) := hq (by rw [HU3.o]; unfold uni; rw [if_neg (by omega)])
                  have e7 : (s.size : Int) ≤ (p : Int) + 7 := by omega
                  clear HU3
                  go_wp2_with fail
                  go_ret2
                  exact RescPost.no HN.o hb
        · have hu : uni s p = none := by unfold uni; rw [if_neg (fun h => h117 h.2.2)]
          have HN : Hq (R = none) := hq (by rw [u1]; unfold escU; rw [hu])
          have e1 : ((byt s (p + 1) : Int) != 117) = true := bne_iff_ne.2 (by omega)
          clear u1 hu h117
          generalize byt s (p + 1) = c at *
          go_wp2_with fail
          go_ret2
          exact RescPost.no HN.o hb
end Go.Proofs.YtekihjffefokjaaDoor
