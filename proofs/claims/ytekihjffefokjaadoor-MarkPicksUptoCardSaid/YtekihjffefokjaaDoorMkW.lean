/-
  WALKS: mark.Width, mark.mark, mark.side.
-/
import Derived.Test.YtekihjffefokjaaDoorMkU
import Derived.Test.YtekihjffefokjaaDoorMkR
import Derived.Lib.Repeat
namespace Go.Proofs.YtekihjffefokjaaDoor
open Go.RowKit

theorem index_s0 (a b c : ByteArray) (W : World) : (Instr.index 51 (.agg #[.string a, .string b, .string c]) (.int .i64 0)).run Tryd.prog W = .ok (.string a) W := by
  have h1 := Tryd.underlying51
  unfold Instr.index
  go_simp
theorem index_s1 (a b c : ByteArray) (W : World) : (Instr.index 51 (.agg #[.string a, .string b, .string c]) (.int .i64 1)).run Tryd.prog W = .ok (.string b) W := by
  have h1 := Tryd.underlying51
  unfold Instr.index
  go_simp
theorem index_s2 (a b c : ByteArray) (W : World) : (Instr.index 51 (.agg #[.string a, .string b, .string c]) (.int .i64 2)).run Tryd.prog W = .ok (.string c) W := by
  have h1 := Tryd.underlying51
  unfold Instr.index
  go_simp
theorem index_i0 (a b c d : Int) (W : World) : (Instr.index 55 (.agg #[.int .i64 a, .int .i64 b, .int .i64 c, .int .i64 d]) (.int .i64 0)).run Tryd.prog W = .ok (.int .i64 a) W := by
  have h1 := Tryd.underlying55
  unfold Instr.index
  go_simp
theorem index_i1 (a b c d : Int) (W : World) : (Instr.index 55 (.agg #[.int .i64 a, .int .i64 b, .int .i64 c, .int .i64 d]) (.int .i64 1)).run Tryd.prog W = .ok (.int .i64 b) W := by
  have h1 := Tryd.underlying55
  unfold Instr.index
  go_simp
theorem index_i2 (a b c d : Int) (W : World) : (Instr.index 55 (.agg #[.int .i64 a, .int .i64 b, .int .i64 c, .int .i64 d]) (.int .i64 2)).run Tryd.prog W = .ok (.int .i64 c) W := by
  have h1 := Tryd.underlying55
  unfold Instr.index
  go_simp
/-- texts short enough to be cut -/
def Short32 (x : MPart) : Prop := Lens 4294967280 x
def grt1 (a : Nat) (x : MPart) : Nat → Nat
  | 0 => max a (runM x.text)
  | 1 => max (max a (runM x.text)) (runM x.s0)
  | 2 => max (max (max a (runM x.text)) (runM x.s0)) (runM x.s1)
  | _ => max (max (max (max a (runM x.text)) (runM x.s0)) (runM x.s1)) (runM x.s2)
theorem grt1_all (a : Nat) (x : MPart) : grt1 a x 3 = max a (runsM x) := by
  show max (max (max (max a (runM x.text)) (runM x.s0)) (runM x.s1)) (runM x.s2) = max a (max (runM x.text) (max (runM x.s0) (max (runM x.s1) (runM x.s2))))
  omega
theorem runM_le (s : Bs) : runM s ≤ s.length := runGo_le true s
theorem grt1_le (a : Nat) (x : MPart) (k : Nat) (h : Short32 x) (ha : a ≤ 4294967280) : grt1 a x k ≤ 4294967280 := by
  obtain ⟨h1, h2, h3, h4⟩ := h
  have k1 := runM_le x.text
  have k2 := runM_le x.s0
  have k3 := runM_le x.s1
  have k4 := runM_le x.s2
  unfold grt1
  split <;> omega

set_option maxHeartbeats 4000000 in
set_option maxRecDepth 1000000 in
theorem width_any (o : Option Addr) (cap : Nat) (l : List MPart) (w : World) (hm : mx w) (hl : l.length ≤ cap) (hc : cap ≤ maxLen) (hin : PartsIn w o l) (hs : ∀ x ∈ l, Short32 x) :
    Calls Tryd.prog 30 #[.slice o l.length cap] w fun e w' => e = .returned (.int .i64 (widthM l : Int)) ∧ Below w.heap.size w w' := by
  unfold maxLen at hc
  have HIN := hq hin
  have HM := hq hm
  have HS := hq hs
  have HV : Hq (widthM l = grtGo 6 (l.drop 0) + 1) := hq rfl
  generalize widthM l = V at *
  clear hin hm hs
  go_enter Tryd.func30, Tryd.ntmps30
  go_wp2_with fail
  go_loopw [3, 10] (fun g i wr => ∃ k a : Nat, k ≤ l.length ∧ i = .int .i64 (k : Int) ∧ g = .int .i64 (a : Int) ∧ a ≤ 4294967280 ∧ Hq (V = grtGo a (l.drop k) + 1) ∧ Below w.heap.size w wr) (fun _ i _ => l.length - (intOf i).toNat)
  case atStart => exact ⟨0, 6, Nat.zero_le _, rfl, rfl, by omega, HV, Below.refl _ _⟩
  case round =>
    obtain ⟨k, a, hk, rfl, rfl, ha, hv, hb⟩ := hrel
    clear HV
    by_cases h : k < l.length
    · obtain ⟨b, f, rfl, hp⟩ := HIN.o k h
      obtain ⟨c0, c1, c2, c3, c4⟩ := hp.grow hb
      have hsz := hb.size
      have HX := hq (HS.o l[k] (List.getElem_mem h))
      have HG : Hq (V = grtGo (max a (runsM l[k])) (l.drop (k + 1)) + 1) := hq (by rw [hv.o, grtGo_step h])
      clear hv hp HIN HS
      generalize l[k] = x at *
      have HG2 : Hq (V = grtGo (grt1 a x 3) (l.drop (k + 1)) + 1) := hq (by rw [HG.o, grt1_all])
      have HLE := hq (fun j => grt1_le a x j HX.o ha)
      have HR := hq (fun (t : Bs) (ht : t.length ≤ 4294967280) W (hW : mx W) => run_any t W hW (by omega))
      have hg0 : Hq (grt1 a x 0 = max a (runM x.text)) := hq rfl
      have hg1 : Hq (grt1 a x 1 = max (grt1 a x 0) (runM x.s0)) := hq rfl
      have hg2 : Hq (grt1 a x 2 = max (grt1 a x 1) (runM x.s1)) := hq rfl
      have hg3 : Hq (grt1 a x 3 = max (grt1 a x 2) (runM x.s2)) := hq rfl
      clear HG
      obtain ⟨z0, z1, z2, z3⟩ := HX.o
      have HBX := hq (hb.alloc hsz (.cells #[.bool x.hunk, .string (st x.text), .string (st x.s0), .string (st x.s1), .string (st x.s2)] 53))
      have HXB := hq (Whole.made wr 53 #[.bool x.hunk, .string (st x.text), .string (st x.s0), .string (st x.s1), .string (st x.s2)])
      clear HX
      go_wp2_with fail
      refine (HR.o _ z0 _ (mx_below HM.o HBX.o (mx_lt HM.o))).mono ?_
      rintro e w2 ⟨rfl, hb2⟩
      have HB2 := hq (HBX.o.trans (hb2.mono HBX.o.size))
      have HXB2 := hq (HXB.o.grow hb2)
      clear hb2
      have hB2 := HB2.o
      have d2 := HXB2.o.at_ 2
      have d3 := HXB2.o.at_ 3
      have d4 := HXB2.o.at_ 4
      clear HBX HXB c0 c1 c2 c3 c4
      go_wp2_with fail
      go_loopw [3, 21] (fun g i wz => ∃ j : Int, 0 ≤ j ∧ j ≤ 3 ∧ i = .int .i64 j ∧ g = .int .i64 (grt1 a x j.toNat : Int) ∧ Hq (Below w.heap.size w wz)) (fun _ i _ => 3 - (intOf i).toNat)
      case atStart => exact ⟨0, by omega, by omega, rfl, int_eq (by show _ = (grt1 a x 0 : Int); rw [hg0.o]; omega), HB2⟩
      case round =>
        obtain ⟨j, hj0, hj, rfl, rfl, hbz⟩ := hrel
        clear HB2 hB2 HXB2 d2 d3 d4
        have hle := HLE.o j.toNat
        by_cases h3 : j < 3
        · have hmz := mx_below HM.o hbz.o (mx_lt HM.o)
          have HMZ := hq hmz
          have hj3 : j = 0 ∨ j = 1 ∨ j = 2 := by omega
          clear hmz hg0
          rcases hj3 with rfl | rfl | rfl
          · have hx := fun W => index_s0 (st x.s0) (st x.s1) (st x.s2) W
            go_wp2_with fail
            clear hx
            refine (HR.o _ z1 _ HMZ.o).mono ?_
            rintro e w3 ⟨rfl, hb3⟩
            have HB3 := hq (hbz.o.trans (hb3.mono hbz.o.size))
            clear hb3 hbz HMZ
            go_wp2_with fail
            go_roundw
            case rel => exact ⟨1, by omega, by omega, rfl, int_eq (by show _ = (grt1 a x 1 : Int); rw [hg1.o]; show max (grt1 a x 0 : Int) _ = _; omega), HB3⟩
            case measure => simp [intOf]
          · have hx := fun W => index_s1 (st x.s0) (st x.s1) (st x.s2) W
            go_wp2_with fail
            clear hx
            refine (HR.o _ z2 _ HMZ.o).mono ?_
            rintro e w3 ⟨rfl, hb3⟩
            have HB3 := hq (hbz.o.trans (hb3.mono hbz.o.size))
            clear hb3 hbz HMZ
            go_wp2_with fail
            go_roundw
            case rel => exact ⟨2, by omega, by omega, rfl, int_eq (by show _ = (grt1 a x 2 : Int); rw [hg2.o]; show max (grt1 a x 1 : Int) _ = _; omega), HB3⟩
            case measure => simp [intOf]
          · have hx := fun W => index_s2 (st x.s0) (st x.s1) (st x.s2) W
            go_wp2_with fail
            clear hx
            refine (HR.o _ z3 _ HMZ.o).mono ?_
            rintro e w3 ⟨rfl, hb3⟩
            have HB3 := hq (hbz.o.trans (hb3.mono hbz.o.size))
            clear hb3 hbz HMZ
            go_wp2_with fail
            go_roundw
            case rel => exact ⟨3, by omega, by omega, rfl, int_eq (by show _ = (grt1 a x 3 : Int); rw [hg3.o]; show max (grt1 a x 2 : Int) _ = _; omega), HB3⟩
            case measure => simp [intOf]
        · obtain rfl : j = 3 := by omega
          go_wp2_with fail
          go_roundw
          case rel => exact ⟨k + 1, grt1 a x 3, h, int_eq (by omega), rfl, hle, HG2, hbz.o⟩
          case measure => simp [intOf]; omega
    · have h' : ¬ (k : Int) < (l.length : Int) := by omega
      have HN : Hq (V = a + 1) := hq (by rw [hv.o, grtGo_end h])
      clear hv h
      go_wp2_with fail
      go_ret
      exact ⟨by rw [HN.o]; rfl, hb⟩

set_option maxHeartbeats 1000000 in
set_option maxRecDepth 1000000 in
theorem side_any (k : Int) (hk3 : k = 0 ∨ k = 1 ∨ k = 2) (w : World) : Calls Tryd.prog 56 #[.int .i64 k] w fun e w' => e = .returned (.int .i64 (if k = 0 then 1 else if k = 1 then 0 else 2)) ∧ w = w' := by
  rcases hk3 with rfl | rfl | rfl
  all_goals
    have hx0 := fun W => index_i0 1 0 2 0 W
    have hx1 := fun W => index_i1 1 0 2 0 W
    have hx2 := fun W => index_i2 1 0 2 0 W
    go_enter Tryd.func56, Tryd.ntmps56
    go_wp2_with fail
    go_ret
    exact ⟨rfl, rfl⟩
def sgnOf (k : Int) : UInt8 := if k = 0 then 60 else if k = 1 then 124 else if k = 2 then 61 else 62
theorem rep_one (c : UInt8) (n : Nat) : Lib.repeatL [c] n = List.replicate n c := by
  have := Lib.repeatL_replicate c 1 n
  rw [Nat.mul_one] at this
  exact this
set_option maxHeartbeats 1000000 in
set_option maxRecDepth 1000000 in
theorem mark_any (k : Int) (n : Nat) (hk3 : k = 0 ∨ k = 1 ∨ k = 2 ∨ k = 3) (hn : n ≤ 4294967290) (w : World) : Calls Tryd.prog 55 #[.int .i64 k, .int .i64 (n : Int)] w fun e w' => e = .returned (.string (st (mrk (sgnOf k) n))) ∧ Below w.heap.size w w' := by
  have HRP := hq (fun (c : UInt8) W => Tryd.strings_Repeat (st [c]) n W (by omega) (by rw [st_size]; simp only [List.length_singleton]; omega))
  rcases hk3 with rfl | rfl | rfl | rfl
  · have HR1 := hq (fun W => (HRP.o 60 W).mono (R' := fun e w' => e = .returned (.string (st (List.replicate n 60))) ∧ Below W.heap.size W w') (by rintro e w' ⟨rfl, h⟩; rw [st_list, rep_one]; exact ⟨rfl, h⟩))
    have HCT : Hq ((st [10] ++ st (List.replicate n 60)) ++ st [10] = st (mrk (sgnOf 0) n)) := hq (by rw [cat_st, cat_st]; rfl)
    have hz : (st (List.replicate n 60)).size = n := by rw [st_size, List.length_replicate]
    have HZ := hq hz
    have hz2 : (st (List.replicate n 60)).size ≤ 4294967290 := by omega
    clear HRP hz
    generalize st (List.replicate n 60) = R at *
    go_enter Tryd.func55, Tryd.ntmps55
    go_wp2_with fail
    refine (HR1.o _).mono ?_
    rintro e w2 ⟨rfl, hb2⟩
    clear HR1
    go_wp2_with fail
    go_ret
    exact ⟨by rw [← HCT.o]; rfl, hb2⟩
  · have HR1 := hq (fun W => (HRP.o 124 W).mono (R' := fun e w' => e = .returned (.string (st (List.replicate n 124))) ∧ Below W.heap.size W w') (by rintro e w' ⟨rfl, h⟩; rw [st_list, rep_one]; exact ⟨rfl, h⟩))
    have HCT : Hq ((st [10] ++ st (List.replicate n 124)) ++ st [10] = st (mrk (sgnOf 1) n)) := hq (by rw [cat_st, cat_st]; rfl)
    have hz : (st (List.replicate n 124)).size = n := by rw [st_size, List.length_replicate]
    have HZ := hq hz
    have hz2 : (st (List.replicate n 124)).size ≤ 4294967290 := by omega
    clear HRP hz
    generalize st (List.replicate n 124) = R at *
    go_enter Tryd.func55, Tryd.ntmps55
    go_wp2_with fail
    refine (HR1.o _).mono ?_
    rintro e w2 ⟨rfl, hb2⟩
    clear HR1
    go_wp2_with fail
    go_ret
    exact ⟨by rw [← HCT.o]; rfl, hb2⟩
  · have HR1 := hq (fun W => (HRP.o 61 W).mono (R' := fun e w' => e = .returned (.string (st (List.replicate n 61))) ∧ Below W.heap.size W w') (by rintro e w' ⟨rfl, h⟩; rw [st_list, rep_one]; exact ⟨rfl, h⟩))
    have HCT : Hq ((st [10] ++ st (List.replicate n 61)) ++ st [10] = st (mrk (sgnOf 2) n)) := hq (by rw [cat_st, cat_st]; rfl)
    have hz : (st (List.replicate n 61)).size = n := by rw [st_size, List.length_replicate]
    have HZ := hq hz
    have hz2 : (st (List.replicate n 61)).size ≤ 4294967290 := by omega
    clear HRP hz
    generalize st (List.replicate n 61) = R at *
    go_enter Tryd.func55, Tryd.ntmps55
    go_wp2_with fail
    refine (HR1.o _).mono ?_
    rintro e w2 ⟨rfl, hb2⟩
    clear HR1
    go_wp2_with fail
    go_ret
    exact ⟨by rw [← HCT.o]; rfl, hb2⟩
  · have HR1 := hq (fun W => (HRP.o 62 W).mono (R' := fun e w' => e = .returned (.string (st (List.replicate n 62))) ∧ Below W.heap.size W w') (by rintro e w' ⟨rfl, h⟩; rw [st_list, rep_one]; exact ⟨rfl, h⟩))
    have HCT : Hq ((st [10] ++ st (List.replicate n 62)) ++ st [10] = st (mrk (sgnOf 3) n)) := hq (by rw [cat_st, cat_st]; rfl)
    have hz : (st (List.replicate n 62)).size = n := by rw [st_size, List.length_replicate]
    have HZ := hq hz
    have hz2 : (st (List.replicate n 62)).size ≤ 4294967290 := by omega
    clear HRP hz
    generalize st (List.replicate n 62) = R at *
    go_enter Tryd.func55, Tryd.ntmps55
    go_wp2_with fail
    refine (HR1.o _).mono ?_
    rintro e w2 ⟨rfl, hb2⟩
    clear HR1
    go_wp2_with fail
    go_ret
    exact ⟨by rw [← HCT.o]; rfl, hb2⟩
end Go.Proofs.YtekihjffefokjaaDoor
