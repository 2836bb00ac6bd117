/-
  WALK: the law ReadReads.
-/
import Derived.Test.YtnlkokgekjlmmaaGreatDoorRdl
import Derived.Test.YtnlkokgekjlmmaaGreatDoorRdr
import Derived.Test.YtnlkokgekjlmmaaGreatDoorVrC
namespace Go.Proofs.YtnlkokgekjlmmaaGreatDoor
open Go.RowKit

/-- what a text is read as: both read alike -/
def ReadsAs (f : FuncId) (s : ByteArray) (vv : Vl) (wn : Nat) (er : Int) (V : World) : Prop :=
  Calls Tryz.prog f #[.string s] V fun e W' => ∃ y : Vt, e = .returned (.tuple #[y.v, .int .i64 (wn : Int), .int .i64 er]) ∧ y.Own 25 9 V.heap.size (fun _ => True) W' ∧ y.m = vv ∧ Below V.heap.size V W'
theorem reads_as (s : ByteArray) (w : World) (hE : Env w) (hs : s.size ≤ maxLen) : ∃ (vv : Vl) (wn : Nat) (er : Int), vv.All Vl.Rng ∧ (∀ V, Below w.heap.size w V → ReadsAs 31 s vv wn er V) ∧ (∀ V, ReadsAs 30 s vv wn er V) := by
  have H1 := fun V (h : Below w.heap.size w V) => readRead_any s V (hE.grow h) hs
  have H2 := fun V => rdocread_any s V hs
  cases hpm : jparseM s with
  | inl p =>
    obtain ⟨wh, er⟩ := p
    have key : ∀ (e : Ending) (V W' : World), RReadPost s V e W' → ∃ y : Vt, e = .returned (.tuple #[y.v, .int .i64 (wh : Int), .int .i64 er]) ∧ y.Own 25 9 V.heap.size (fun _ => True) W' ∧ y.m = .mk 0 [] [] [] ∧ Below V.heap.size V W' := fun e V W' h => by
      unfold RReadPost at h
      rw [hpm] at h
      exact ⟨.mk 0 [] ⟨none, 0, []⟩ none 0 [], h.1, leaf_own _ _ _ _, by rw [Vt.m_mk]; rfl, h.2⟩
    exact ⟨.mk 0 [] [] [], wh, er, rng_small (by kernel_rfl), fun V hV => (H1 V hV).mono (fun e W' h => key e V W' h), fun V => (H2 V).mono (fun e W' h => key e V W' h)⟩
  | inr ns =>
    obtain ⟨v0, hv0⟩ := (jparseM_rv hpm).1
    have key : ∀ (e : Ending) (V W' : World), RReadPost s V e W' → ∃ y : Vt, e = .returned (.tuple #[y.v, .int .i64 (s.size : Int), .int .i64 0]) ∧ y.Own 25 9 V.heap.size (fun _ => True) W' ∧ y.m = v0 ∧ Below V.heap.size V W' := fun e V W' h => by
      unfold RReadPost at h
      rw [hpm] at h
      obtain ⟨y, v, h1, h2, h3, h4, h5⟩ := h
      obtain ⟨rfl, _⟩ := h1.one hv0
      exact ⟨y, h2, h3, h4, h5⟩
    exact ⟨v0, s.size, 0, hv0.rng (parsed_size hpm), fun V hV => (H1 V hV).mono (fun e W' h => key e V W' h), fun V => (H2 V).mono (fun e W' h => key e V W' h)⟩
set_option maxHeartbeats 8000000 in
set_option maxRecDepth 1000000 in
theorem rreads_law (s : ByteArray) (w : World) (hE : Env w) (hs : s.size ≤ maxLen) : Calls Tryz.prog 8 #[.string s] w (BPost true w) := by
  have HSM : Hq (Calls Tryz.prog 29 #[] w (fun e W' => e = .returned (.bool true) ∧ Below w.heap.size w W')) := hq (small9_any w hE)
  have HRA := reads_as s w hE hs
  obtain ⟨vv, wn, er, hrng, h1, h2⟩ := HRA
  have HR := hq h1
  have HD := hq h2
  unfold ReadsAs at HR HD
  have HSP := hq (fun (B : Nat) (y : Vt) (V : World) (h : y.Own 25 9 B (fun _ => True) V) (hB : B ≤ V.heap.size) => spoilO_any h hB)
  unfold SpPost at HSP
  have HEQ := hq (fun (y z : Vt) (V : World) (hy : y.Own 25 9 0 (fun _ => True) V) (hz : z.Ok V) (hym : y.m = vv) (hzm : z.m = vv) => (equal_any y z V (hy.ok (by rw [hym]; exact hrng)) hz).mono (fun (e : Ending) W ⟨v, h1, h2, h3⟩ => (show e = Ending.returned (.bool true) ∧ Below V.heap.size V W from ⟨by rw [h1, h2.2 (hym.trans hzm.symm)], h3⟩)))
  have HOK := hq (fun (z : Vt) (V : World) (B : Nat) (hz : z.Own 25 9 B (fun _ => True) V) (hm : z.m = vv) => hz.ok (by rw [hm]; exact hrng))
  have HFI : Hq (∀ W', Below w.heap.size w W' → BPost true w (.returned (.bool true)) W') := hq (fun W' h => ⟨rfl, h⟩)
  generalize BPost true w = PP at *
  unfold maxLen at hs
  clear hE hrng h1 h2
  go_enter Tryz.func8, Tryz.ntmps8
  go_wp2_with fail
  refine HSM.o.mono ?_
  rintro e w1 ⟨rfl, hb1⟩
  have HB1 := hq hb1
  clear HSM hb1
  by_cases hz : 4096 < s.size
  · have hz1 : (4096 : Int) < (s.size : Int) := by omega
    have HV := hq (HFI.o w1 HB1.o)
    clear HFI HR HD HSP HEQ HOK
    go_wp2_with fail
    first | exact HV.o | (go_ret; exact HV.o)
  · have hz1 : ¬ (4096 : Int) < (s.size : Int) := by omega
    go_wp2_with fail
    refine (HD.o w1).mono ?_
    rintro e w2 ⟨z, rfl, hzo, hzm, hb2⟩
    obtain ⟨zk, zt, ⟨zko, zkc, zkl⟩, zo, zc, zis⟩ := z
    rw [Vt.v_mk']
    have hb3 := below_alloc w2 (.cells #[.int .i64 zk, .string (st zt), .slice zko zkl.length zkc, .slice zo zis.length zc] 25)
    have HB3 := hq (below_trans (below_trans HB1.o hb2) hb3)
    have HZ3 := hq ((HOK.o _ _ _ hzo hzm).grow hb3)
    have HZM := hq hzm
    have HW3 := hq (Whole.made w2 25 #[.int .i64 zk, .string (st zt), .slice zko zkl.length zkc, .slice zo zis.length zc])
    go_upto_region 5 with fail
    clear hzo hzm hb2 hb3 HD HOK
    generalize (w2.alloc (.cells #[.int .i64 zk, .string (st zt), .slice zko zkl.length zkc, .slice zo zis.length zc] 25)) = w3 at *
    generalize w2.heap.size = gz at *
    go_wp2_with fail
    go_loopw [7, 8, 9, 10, 11] (fun i _ _ _ _ wr => ∃ j : Nat, j ≤ 2 ∧ i = .int .i64 (j : Int) ∧ Hq (Below w.heap.size w wr) ∧ Hq ((Vt.mk zk zt ⟨zko, zkc, zkl⟩ zo zc zis).Ok wr) ∧ Hq (Whole wr gz 25 #[.int .i64 zk, .string (st zt), .slice zko zkl.length zkc, .slice zo zis.length zc])) (fun i _ _ _ _ _ => 2 - (intOf i).toNat)
    case atStart => exact ⟨0, by omega, rfl, HB3, HZ3, HW3⟩
    case round =>
      obtain ⟨j, hj, rfl, HBr, HZr, HWr⟩ := hrel
      clear HB3 HZ3 HW3
      by_cases h : j < 2
      · have hj2 : (j : Int) < 2 := by omega
        go_wp2_with fail
        refine (HR.o wr HBr.o).mono ?_
        rintro e w4 ⟨y, rfl, hyo, hym, hb4⟩
        have HEY := hq (fun V (h : Below w4.heap.size w4 V) => HEQ.o y _ V ((hyo.grow h).base (Nat.zero_le _)) (HZr.o.grow (below_trans hb4 h)) hym HZM.o)
        have HSY := hq (fun V (h : Below w4.heap.size w4 V) => HSP.o wr.heap.size y V (hyo.grow h) (Nat.le_trans hb4.size h.size))
        obtain ⟨yk, yt, ⟨yko, ykc, ykl⟩, yo, yc, yis⟩ := y
        rw [Vt.v_mk'] at HEY HSY ⊢
        rw [Vt.v_mk'] at HEY
        have hb5 := below_alloc w4 (.cells #[.int .i64 yk, .string (st yt), .slice yko ykl.length ykc, .slice yo yis.length yc] 25)
        have HB5 := hq hb5
        have HW5 := hq ((HWr.o.grow hb4).grow hb5)
        have HY5 := hq (Whole.made w4 25 #[.int .i64 yk, .string (st yt), .slice yko ykl.length ykc, .slice yo yis.length yc])
        have HB4 := hq hb4
        clear hyo hym hb5 hb4 HR HSP HEQ
        go_upto_region 9 with fail
        generalize (w4.alloc (.cells #[.int .i64 yk, .string (st yt), .slice yko ykl.length ykc, .slice yo yis.length yc] 25)) = w5 at *
        have hg4 : w4.heap.size < w5.heap.size := HY5.o.lt
        obtain ⟨gy, HGY⟩ : ∃ g, Hq (w4.heap.size = g) := ⟨_, hq rfl⟩
        rw [HGY.o] at HY5
        rw [HGY.o]
        obtain ⟨c0, c1, c2, c3⟩ := four_cells HW5.o
        obtain ⟨d0, d1, d2, d3⟩ := four_cells HY5.o
        go_wp2_with fail
        refine (HEY.o w5 HB5.o).mono ?_
        rintro e w6 ⟨rfl, hb6⟩
        have HY6 := hq (HY5.o.grow hb6)
        have HB6 := hq (below_trans HB5.o hb6)
        clear c0 c1 c2 c3 d0 d1 d2 d3 HY5 HW5 HEY
        obtain ⟨d0, d1, d2, d3⟩ := four_cells HY6.o
        go_wp2_with fail
        refine (HSY.o w6 HB6.o).mono ?_
        rintro e w7 ⟨rfl, hs7⟩
        have HB7 := hq (show Below wr.heap.size wr w7 from (HB4.o.trans (HB6.o.mono HB4.o.size)).trans hs7.below)
        have HBN := hq (HBr.o.trans (HB7.o.mono HBr.o.size))
        have HZN := hq (HZr.o.grow HB7.o)
        have HWN := hq (HWr.o.grow HB7.o)
        clear d0 d1 d2 d3 HY6 HB6 HB5 HB4 hs7 HSY hb6
        have e1 : ((wn : Int) != (wn : Int)) = false := by simp
        have e2 : (er != er) = false := by simp
        go_wp2_with fail
        go_roundw
        case rel => exact ⟨j + 1, by omega, int_eq (by omega), HBN, HZN, HWN⟩
        case measure => (try simp [intOf]); omega
      · have hj2 : ¬ (j : Int) < 2 := by omega
        have HV := hq (HFI.o wr HBr.o)
        clear HFI HR HSP HEQ
        go_wp2_with fail
        first | exact HV.o | (go_ret; exact HV.o)
end Go.Proofs.YtnlkokgekjlmmaaGreatDoor
