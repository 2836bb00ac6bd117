/-
  WALKS: the document's run and Width of layer 25.
  WALKS: the document's Encode of layer 25.
-/
import Derived.Test.YtekihjffefokjaaDoorRMkR
import Derived.Deep.RegionHeld3
import Derived.IntWalk
import Derived.Test.YtekihjffefokjaaDoorNumKW
namespace Go.Proofs.YtekihjffefokjaaDoor
open Go.RowKit

/-- does a line begin there? -/
def bolB (s : Bs) : Nat → Bool
  | 0 => true
  | k + 1 => (s[k]?.map (· == 10)).getD true
theorem bolB_succ {s : Bs} {k : Nat} (h : k < s.length) : bolB s (k + 1) = (s[k] == 10) := by
  show (s[k]?.map (· == 10)).getD true = _
  rw [List.getElem?_eq_getElem h]; rfl
theorem runGo_step {s : Bs} {k : Nat} (h : k < s.length) : runGo (bolB s k) (s.drop k) = max (if (bolB s k && isSgn s[k]) = true then lead s[k] (s.drop k) else 0) (runGo (bolB s (k + 1)) (s.drop (k + 1))) := by
  rw [List.drop_eq_getElem_cons h, runGo, bolB_succ h]
theorem runGo_end {s : Bs} {k : Nat} (h : ¬ k < s.length) (a : Bool) : runGo a (s.drop k) = 0 := by
  rw [List.drop_eq_nil_of_le (by omega)]; rfl
theorem lead_go {s : Bs} {c : UInt8} {k : Nat} (h : k < s.length) (hc : s[k] = c) : lead c (s.drop k) = lead c (s.drop (k + 1)) + 1 := by
  rw [List.drop_eq_getElem_cons h, lead, if_pos hc]
theorem lead_stop {s : Bs} {c : UInt8} {k : Nat} (h : k < s.length) (hc : s[k] ≠ c) : lead c (s.drop k) = 0 := by
  rw [List.drop_eq_getElem_cons h, lead, if_neg hc]
theorem lead_end {s : Bs} {c : UInt8} {k : Nat} (h : ¬ k < s.length) : lead c (s.drop k) = 0 := by
  rw [List.drop_eq_nil_of_le (by omega)]; rfl
theorem isSgn_nat (b : UInt8) : isSgn b = ((b.toNat == 60) || (b.toNat == 124) || (b.toNat == 61) || (b.toNat == 62)) := by
  unfold isSgn
  have h : ∀ c : UInt8, (b == c) = (b.toNat == c.toNat) := fun c => by rw [Bool.eq_iff_iff, beq_iff_eq, beq_iff_eq, ← UInt8.toNat_inj]
  rw [h, h, h, h]; rfl

theorem byte_eq' {b c : UInt8} : (b == c) = ((b.toNat : Int) == (c.toNat : Int)) := by
  rw [Bool.eq_iff_iff, beq_iff_eq, beq_iff_eq, ← UInt8.toNat_inj]
  omega
set_option maxHeartbeats 2000000 in
set_option maxRecDepth 1000000 in
theorem rrun_any (s : Bs) (w : World) (hs : s.length ≤ 4294967280) :
    Calls Tryd.prog 61 #[.string (st s)] w fun e w' => e = .returned (.int .i64 (runM s : Int)) ∧ Below w.heap.size w w' := by
  have HR : Hq (runM s = max 0 (runGo (bolB s 0) (s.drop 0))) := hq (by rw [Nat.zero_max]; rfl)
  generalize runM s = R at *
  go_enter Tryd.func61, Tryd.ntmps61
  go_wp2_with fail
  go_loopw [3, 4] (fun m i wr => ∃ k a : Nat, k ≤ s.length ∧ i = .int .i64 (k : Int) ∧ m = .int .i64 (a : Int) ∧ a ≤ s.length ∧ Hq (R = max a (runGo (bolB s k) (s.drop k))) ∧ Below w.heap.size w wr) (fun _ i _ => s.length - (intOf i).toNat)
  case atStart => exact ⟨0, 0, Nat.zero_le _, rfl, rfl, Nat.zero_le _, HR, Below.refl _ _⟩
  case round =>
    obtain ⟨k, a, hk, rfl, rfl, hal, hr, hb⟩ := hrel
    replace hb := hq hb
    clear HR
    by_cases h : k < s.length
    · have hz : k < (st s).size := by rw [st_size]; exact h
      have HS := hq (hr.o.trans (congrArg (max a) (runGo_step h)))
      have HB0 : Hq (k = 0 → bolB s k = true) := hq (fun h => by rw [h]; rfl)
      have HB1 : Hq (∀ j (hj : j < (st s).size), k = j + 1 → bolB s k = ((((st s)[j]'hj).toNat : Int) == 10)) := hq (fun j hj he => by
        subst he
        rw [bolB_succ (by omega), byte_eq']
        rfl)
      have HG : Hq (∀ x : Nat, ((st s)[k]'hz).toNat = x → isSgn s[k] = ((x == 60) || (x == 124) || (x == 61) || (x == 62))) := hq (fun x hx => by rw [isSgn_nat, ← hx]; rfl)
      have HLE : Hq (lead s[k] (s.drop k) ≤ s.length) := hq (Nat.le_trans (lead_le _ _) (by rw [List.length_drop]; omega))
      have HC : Hq (∀ q (hq' : q < s.length) (x y : Nat), s[q].toNat = y → ((st s)[k]'hz).toNat = x → (x = y → lead s[k] (s.drop q) = lead s[k] (s.drop (q + 1)) + 1) ∧ (x ≠ y → lead s[k] (s.drop q) = 0)) := hq (fun q hq' x y hy hx => ⟨fun e => lead_go hq' (UInt8.toNat_inj.1 (by rw [hy, ← e, ← hx]; rfl)), fun e => lead_stop hq' (fun e2 => e (by rw [← hx, ← hy, e2]; rfl))⟩)
      have HEN : Hq (∀ q, ¬ q < s.length → lead s[k] (s.drop q) = 0) := hq (fun q h => lead_end h)
      clear hr
      generalize bolB s k = BL at *
      go_upto_region 5 with fail
      go_cut [20] from 6 to 64 (fun c wx => c = .bool (!BL) ∧ Hq (Below w.heap.size w wx))
      case first =>
        by_cases h0 : k = 0
        · have HF := hq (HB0.o h0)
          subst h0
          clear HS HB0 HB1 HG HLE HC HEN
          go_wp2_with fail
          go_meet
          exact ⟨by rw [HF.o]; rfl, hb⟩
        · obtain ⟨j, rfl⟩ : ∃ j, k = j + 1 := ⟨k - 1, by omega⟩
          have hzj : j < (st s).size := by rw [st_size]; omega
          have HF := hq (HB1.o j hzj rfl)
          generalize hx : ((st s)[j]'hzj).toNat = x at HF
          have hy : (((st s)[j]'hzj).toNat : Int) = (x : Int) := by rw [hx]
          clear hx HS HB0 HB1 HG HLE HC HEN
          go_wp2_with fail
          go_meet
          exact ⟨by rw [HF.o]; rfl, hb⟩
      case rest =>
        clear hb
        obtain ⟨rfl, hb⟩ := hcut
        cases BL with
        | false =>
          have HN : Hq (R = max a (runGo (bolB s (k + 1)) (s.drop (k + 1)))) := hq (by rw [HS.o]; simp)
          clear HS HB0 HB1 HG HLE HC HEN
          go_wp2_with fail
          go_roundw
          case rel => exact ⟨k + 1, a, h, int_eq (by omega), rfl, hal, HN, hb.o⟩
          case measure => simp [intOf]; omega
        | true =>
          have HS2 : Hq (R = max a (max (if isSgn s[k] = true then lead s[k] (s.drop k) else 0) (runGo (bolB s (k + 1)) (s.drop (k + 1))))) := hq (by rw [HS.o, Bool.true_and])
          clear HS HB0 HB1
          generalize isSgn s[k] = SG at *
          generalize hNX : runGo (bolB s (k + 1)) (s.drop (k + 1)) = NX at *
          have HNX := hq hNX
          clear hNX
          go_upto_region 6 with fail
          go_cut [42] from 6 to 64 (fun c wx => c = .bool (!SG) ∧ Hq (Below w.heap.size w wx))
          case first =>
            generalize hx : ((st s)[k]'hz).toNat = x at *
            have hy : (((st s)[k]'hz).toNat : Int) = (x : Int) := by rw [hx]
            have HF := hq (HG.o x rfl)
            clear hx HG HLE HC HEN HS2
            by_cases g1 : x = 60
            · have e1 : ((x : Int) != 60) = false := by rw [g1]; rfl
              have HV : Hq (SG = true) := hq (by rw [HF.o, g1]; rfl)
              clear g1 HF
              go_wp2_with fail
              go_meet
              exact ⟨by rw [HV.o]; rfl, hb⟩
            have e1 : ((x : Int) != 60) = true := bne_iff_ne.2 (by omega)
            by_cases g2 : x = 124
            · have e2 : ((x : Int) != 124) = false := by rw [g2]; rfl
              have HV : Hq (SG = true) := hq (by rw [HF.o, g2]; rfl)
              clear g1 g2 HF
              go_wp2_with fail
              go_meet
              exact ⟨by rw [HV.o]; rfl, hb⟩
            have e2 : ((x : Int) != 124) = true := bne_iff_ne.2 (by omega)
            by_cases g3 : x = 61
            · have e3 : ((x : Int) != 61) = false := by rw [g3]; rfl
              have HV : Hq (SG = true) := hq (by rw [HF.o, g3]; rfl)
              clear g1 g2 g3 HF
              go_wp2_with fail
              go_meet
              exact ⟨by rw [HV.o]; rfl, hb⟩
            have e3 : ((x : Int) != 61) = true := bne_iff_ne.2 (by omega)
            by_cases g4 : x = 62
            · have e4 : ((x : Int) != 62) = false := by rw [g4]; rfl
              have HV : Hq (SG = true) := hq (by rw [HF.o, g4]; rfl)
              clear g1 g2 g3 g4 HF
              go_wp2_with fail
              go_meet
              exact ⟨by rw [HV.o]; rfl, hb⟩
            have e4 : ((x : Int) != 62) = true := bne_iff_ne.2 (by omega)
            have HV : Hq (SG = false) := hq (by rw [HF.o]; simp [g1, g2, g3, g4])
            clear g1 g2 g3 g4 HF
            go_wp2_with fail
            go_meet
            exact ⟨by rw [HV.o]; rfl, hb⟩
          case rest =>
            clear hb
            obtain ⟨rfl, hb⟩ := hcut
            cases SG with
            | false =>
              have HN : Hq (R = max a NX) := hq (by rw [HS2.o]; simp)
              clear HS2 HG HLE HC HEN
              go_wp2_with fail
              go_roundw
              case rel => exact ⟨k + 1, a, h, int_eq (by omega), rfl, hal, hq (HN.o.trans (congrArg (max _) HNX.o.symm)), hb.o⟩
              case measure => simp [intOf]; omega
            | true =>
              have HS3 : Hq (R = max a (max (lead s[k] (s.drop k)) NX)) := hq (by rw [HS2.o]; simp)
              have HST : Hq (lead s[k] (s.drop k) = 0 + lead s[k] (s.drop (k + 0))) := hq (by rw [Nat.zero_add, Nat.add_zero])
              clear HS2 HG
              generalize lead s[k] = LD at *
              go_wp2_with fail
              go_loopw [5] (fun nv wn => ∃ p : Nat, k + p ≤ s.length ∧ nv = .int .i64 (p : Int) ∧ Hq (LD (s.drop k) = p + LD (s.drop (k + p))) ∧ Below w.heap.size w wn) (fun nv _ => s.length - (intOf nv).toNat)
              case atStart => exact ⟨0, by omega, rfl, HST, hb.o⟩
              case round =>
                obtain ⟨p, hkp, rfl, hld, hbn⟩ := hrel
                clear HST hb
                obtain ⟨q, hq0⟩ : ∃ q, q = k + p := ⟨_, rfl⟩
                have hqi : (k : Int) + (p : Int) = (q : Int) := by omega
                have hqb : q ≤ 4294967280 := by omega
                rw [← hq0] at hld
                by_cases hlt : q < s.length
                · have hz2 : q < (st s).size := by rw [st_size]; exact hlt
                  have HCC := hq (HC.o q hlt)
                  generalize hx : ((st s)[k]'hz).toNat = x at *
                  have hy : (((st s)[k]'hz).toNat : Int) = (x : Int) := by rw [hx]
                  have HC2 : Hq (∀ y : Nat, ((st s)[q]'hz2).toNat = y → (x = y → LD (s.drop q) = LD (s.drop (q + 1)) + 1) ∧ (x ≠ y → LD (s.drop q) = 0)) := hq (fun y hy' => HCC.o x y hy' rfl)
                  generalize hx2 : ((st s)[q]'hz2).toNat = y at HC2
                  have hy2 : (((st s)[q]'hz2).toNat : Int) = (y : Int) := by rw [hx2]
                  have HC3 := hq (HC2.o y rfl)
                  have hi : (q : Int) < (s.length : Int) := by omega
                  have HQ := hq hq0
                  clear hx hx2 HC HEN HCC HC2 hq0
                  by_cases hxy : x = y
                  · have e1 : ((y : Int) == (x : Int)) = true := beq_iff_eq.2 (by omega)
                    have HN : Hq (LD (s.drop k) = (p + 1) + LD (s.drop (k + (p + 1)))) := hq (by rw [hld.o, HC3.o.1 hxy, ← Nat.add_assoc k, ← HQ.o]; omega)
                    have hpk : k + (p + 1) ≤ s.length := by have := HQ.o; omega
                    clear hld HC3 HS3 HLE hxy HQ
                    go_wp2_with fail
                    go_region
                    go_wp2_with fail
                    go_roundw
                    case rel => exact ⟨p + 1, hpk, int_eq (by omega), HN, hbn.drew⟩
                    case measure => simp [intOf]; omega
                  · have e1 : ((y : Int) == (x : Int)) = false := beq_eq_false_iff_ne.2 (by omega)
                    have hlp : LD (s.drop k) = p := by rw [hld.o, HC3.o.2 hxy]; omega
                    have HN : Hq (R = max (max a p) NX) := hq (by rw [HS3.o, hlp]; omega)
                    clear hld HC3 HS3 HLE hxy hlp HQ
                    go_wp2_with fail
                    go_region
                    go_wp2_with fail
                    go_roundw
                    case rel => exact ⟨k + 1, max a p, h, int_eq (by omega), int_eq (by first | omega | (split <;> omega)), by omega, hq (HN.o.trans (congrArg (max _) HNX.o.symm)), hbn.drew⟩
                    case measure => simp [intOf]; omega
                · have hi : ¬ (q : Int) < (s.length : Int) := by omega
                  have hlp : LD (s.drop k) = p := by rw [hld.o, HEN.o _ hlt]; omega
                  have HN : Hq (R = max (max a p) NX) := hq (by rw [HS3.o, hlp]; omega)
                  have hdb : decide ((q : Int) < (s.length : Int)) = false := decide_eq_false hi
                  have hdn : decide (q < s.length) = false := decide_eq_false hlt
                  clear hld HS3 HLE hlp HC HEN hq0
                  go_wp2_with fail
                  go_region
                  go_wp2_with fail
                  go_roundw
                  case rel => exact ⟨k + 1, max a p, h, int_eq (by omega), int_eq (by first | omega | (split <;> omega)), by omega, hq (HN.o.trans (congrArg (max _) HNX.o.symm)), hbn.drew⟩
                  case measure => simp [intOf]; omega
    · have h1 : ¬ (k : Int) < (s.length : Int) := by omega
      have HN : Hq (R = a) := hq (by rw [hr.o, runGo_end h, Nat.max_zero])
      clear hr h
      go_wp2_with fail
      go_ret
      exact ⟨by rw [HN.o]; rfl, hb.o⟩
/-- a part that lies in the world at hand -/
structure Ptn (w : World) (b f : Nat) (x : MPart) (W : World) : Prop where
  bel : Below w.heap.size w W
  at_ : PartAt W b f x
section
variable {w : World} {b f : Nat} {x : MPart} {W : World}
theorem Ptn.grow {W' : World} (h : Ptn w b f x W) (hb : Below W.heap.size W W') : Ptn w b f x W' := ⟨below_trans h.bel hb, h.at_.grow hb⟩
theorem Ptn.drew (h : Ptn w b f x W) : Ptn w b f x W.drew := h.grow (Below.refl _ _).drew
theorem Ptn.cells (h : Ptn w b f x W) : W.cell? ⟨b, f, none⟩ = some (.bool x.hunk) ∧ W.cell? ⟨b, f + 1, none⟩ = some (.string (st x.text)) ∧ W.cell? ⟨b, f + 2, none⟩ = some (.string (st x.s0)) ∧ W.cell? ⟨b, f + 3, none⟩ = some (.string (st x.s1)) ∧ W.cell? ⟨b, f + 4, none⟩ = some (.string (st x.s2)) :=
  ⟨h.at_.c0, h.at_.c1, h.at_.c2, h.at_.c3, h.at_.c4⟩
end
theorem max5 (W : World) (t0 t1 t2 t3 t4 t : TypeId) (x y z u v : Int) : (Builtin.max_ #[t0, t1, t2, t3, t4] t #[.int .i64 x, .int .i64 y, .int .i64 z, .int .i64 u, .int .i64 v]).run Tryd.prog W = .ok (.int .i64 (max (max (max (max x y) z) u) v)) W := by
  have e : ∀ x y : Int, (if x < y then y else x) = max x y := fun x y => by split <;> omega
  simp [Builtin.max_, Builtin.max2, e]
set_option maxHeartbeats 4000000 in
set_option maxRecDepth 1000000 in
theorem rwidth_any (o : Option Addr) (cap : Nat) (l : List MPart) (w : World) (_hl : l.length ≤ cap) (_hc : cap ≤ maxLen) (hin : PartsIn w o l) (hs : ∀ x ∈ l, Lens 4294967279 x) :
    Calls Tryd.prog 31 #[.slice o l.length cap] w fun e w' => e = .returned (.int .i64 (widthM l : Int)) ∧ Below w.heap.size w w' := by
  unfold maxLen at _hc
  have HIN := hq hin
  have HS := hq hs
  have HV : Hq (widthM l = grtGo 6 (l.drop 0) + 1) := hq rfl
  generalize widthM l = V at *
  clear hin hs
  go_enter Tryd.func31, Tryd.ntmps31
  go_wp2_with fail
  go_loopw [3, 4] (fun g i wr => ∃ k a : Nat, k ≤ l.length ∧ i = .int .i64 (k : Int) ∧ g = .int .i64 ((a : Int) + 1) ∧ a ≤ 4294967279 ∧ Hq (V = grtGo a (l.drop k) + 1) ∧ Below w.heap.size w wr) (fun _ i _ => l.length - (intOf i).toNat)
  case atStart => exact ⟨0, 6, Nat.zero_le _, rfl, rfl, by omega, HV, Below.refl _ _⟩
  case round =>
    obtain ⟨k, a, hk, rfl, rfl, hal, hv, hb⟩ := hrel
    clear HV
    by_cases h : k < l.length
    · obtain ⟨b, f, rfl, hp⟩ := HIN.o k h
      have hP : Ptn w b (f + k * 5) l[k] wr := ⟨hb, hp.grow hb⟩
      have hcl := hP.cells
      obtain ⟨c0, c1, c2, c3, c4⟩ := hP.cells
      have hln := HS.o l[k] (List.getElem_mem h)
      have HN : Hq (V = grtGo (max a (runsM l[k])) (l.drop (k + 1)) + 1) := hq (by rw [hv.o, grtGo_step h])
      clear hv hp hb
      generalize l[k] = x at *
      obtain ⟨xh, T, s0, s1, s2⟩ := x
      simp only at c0 c1 c2 c3 c4 hcl
      have HRU : Hq (∀ s : Bs, s.length ≤ 4294967279 → ∀ W, Calls Tryd.prog 61 #[.string (st s)] W fun e w' => e = .returned (.int .i64 (runM s : Int)) ∧ Below W.heap.size W w') := hq (fun s hs W => rrun_any s W (by omega))
      obtain ⟨z0, z1, z2, z3⟩ := hln
      simp only at z0 z1 z2 z3
      have r0 : runM T ≤ T.length := runGo_le _ _
      have r1 : runM s0 ≤ s0.length := runGo_le _ _
      have r2 : runM s1 ≤ s1.length := runGo_le _ _
      have r3 : runM s2 ≤ s2.length := runGo_le _ _
      have q0 : IntKind.i64.wrap ((runM T : Int) + 1) = (runM T : Int) + 1 := IntWalk.i64_in _ (by omega)
      have q1 : IntKind.i64.wrap ((runM s0 : Int) + 1) = (runM s0 : Int) + 1 := IntWalk.i64_in _ (by omega)
      have q2 : IntKind.i64.wrap ((runM s1 : Int) + 1) = (runM s1 : Int) + 1 := IntWalk.i64_in _ (by omega)
      have q3 : IntKind.i64.wrap ((runM s2 : Int) + 1) = (runM s2 : Int) + 1 := IntWalk.i64_in _ (by omega)
      have HM5 := fun W => max5 W 3 3 3 3 3 3 ((a : Int) + 1) ((runM T : Int) + 1) ((runM s0 : Int) + 1) ((runM s1 : Int) + 1) ((runM s2 : Int) + 1)
      have hrs : runsM ⟨xh, T, s0, s1, s2⟩ = max (runM T) (max (runM s0) (max (runM s1) (runM s2))) := rfl
      generalize runsM ⟨xh, T, s0, s1, s2⟩ = rs at *
      have HRS := hq hrs
      clear hrs HS HIN
      go_upto_region 5 with fail
      go_region_held3 (fun W => Ptn w b (f + k * 5) ⟨xh, T, s0, s1, s2⟩ W ∧ W.cell? ⟨b, f + k * 5, none⟩ = some (.bool xh) ∧ W.cell? ⟨b, f + k * 5 + 1, none⟩ = some (.string (st T)) ∧ W.cell? ⟨b, f + k * 5 + 2, none⟩ = some (.string (st s0)) ∧ W.cell? ⟨b, f + k * 5 + 3, none⟩ = some (.string (st s1)) ∧ W.cell? ⟨b, f + k * 5 + 4, none⟩ = some (.string (st s2)))
        (first | exact ⟨hP.drew, hP.drew.cells⟩ | exact ⟨hT2, hT2.cells⟩)
        ((go_at_call 61; refine (HRU.o _ (by assumption) _).mono ?_; rintro e' w9 ⟨rfl, hb9⟩; have hT2 : Ptn w b (f + k * 5) ⟨xh, T, s0, s1, s2⟩ w9 := Ptn.grow (And.left (by assumption)) hb9))
      all_goals
        go_wp2_with fail
        go_roundw
        case rel => exact ⟨k + 1, max a rs, h, int_eq (by omega), int_eq (by rw [HRS.o]; omega), by rw [HRS.o]; omega, HN, hT2.bel⟩
        case measure => simp [intOf]; omega
    · have h' : ¬ (k : Int) < (l.length : Int) := by omega
      have HN : Hq (V = a + 1) := hq (by rw [hv.o, grtGo_end h])
      clear hv h
      go_wp2_with fail
      go_ret
      exact ⟨by rw [HN.o]; rfl, hb⟩
end Go.Proofs.YtekihjffefokjaaDoor

namespace Go.Proofs.YtekihjffefokjaaDoor
open Go.RowKit

theorem part_new (w : World) (x : MPart) : PartAt (w.alloc (.cells (partCs x) 53)) w.heap.size 0 x := by
  have h := Whole.made w 53 (partCs x)
  exact ⟨h.at_ 0, h.at_ 1, h.at_ 2, h.at_ 3, h.at_ 4⟩
def sgB (n : Nat) (c : UInt8) : ByteArray := st (List.replicate n c ++ [10])
theorem sgB_size (n : Nat) (c : UInt8) : (sgB n c).size = n + 1 := by unfold sgB; rw [st_size]; simp
theorem enc_cat (n : Nat) (acc s0 s1 s2 : Bs) : ((((((((((((st acc ++ st [10]) ++ sgB n 60) ++ st s1) ++ st [10]) ++ sgB n 124) ++ st s0) ++ st [10]) ++ sgB n 61) ++ st s2) ++ st [10]) ++ sgB n 62) : ByteArray) = st (acc ++ partB n ⟨true, [], s0, s1, s2⟩) := by
  unfold sgB
  simp only [cat_st]
  congr 1
  unfold partB mrk
  simp [List.append_assoc]

set_option maxHeartbeats 4000000 in
set_option maxRecDepth 1000000 in
theorem renc_any (o : Option Addr) (cap : Nat) (l : List MPart) (w : World) (hl : l.length ≤ cap) (hc : cap ≤ maxLen) (hin : PartsIn w o l) (hs : ∀ x ∈ l, Lens 4294967279 x) (hE0 : rightB l = true → (encM l).length ≤ 1099511627776) (hwd : widthM l ≤ 1073741824) :
    Calls Tryd.prog 25 #[.slice o l.length cap] w (EncPost l w) := by
  have HRT := hq (rmright_any o cap l w hl hc hin)
  have HIN := hq hin
  have HS := hq hs
  have hc0 := hc
  unfold maxLen at hc
  clear hin hs
  cases hR : rightB l with
  | false =>
    rw [hR] at HRT
    have HP : Hq (∀ w', Below w.heap.size w w' → EncPost l w (.returned (.tuple #[.string ⟨#[]⟩, .int .i64 1])) w') := hq (fun w' h => ⟨by rw [hR]; rfl, h⟩)
    clear hR HS HIN
    go_enter Tryd.func25, Tryd.ntmps25
    go_wp2_with fail
    refine HRT.o.mono ?_
    rintro e w1 ⟨rfl, hb1⟩
    clear HRT
    go_wp2_with fail
    go_ret2
    exact HP.o _ hb1
  | true =>
    rw [hR] at HRT
    have hE := hE0 hR
    clear hE0
    have hok := (okB_iff l true).1 (by unfold rightB at hR; rw [Bool.and_eq_true] at hR; exact hR.2)
    have HP : Hq (∀ w', Below w.heap.size w w' → EncPost l w (.returned (.tuple #[.string (st (encM l)), .int .i64 0])) w') := hq (fun w' h => ⟨by rw [hR]; rfl, h⟩)
    have HEN : Hq (encM l = headIf (anyH l) (widthM l) ++ encGo (widthM l) (l.drop 0)) := hq rfl
    have HOK := hq hok
    have h7 := widthM_7 l
    clear hR hok
    generalize EncPost l w = PP at *
    go_enter Tryd.func25, Tryd.ntmps25
    go_wp2_with fail
    refine HRT.o.mono ?_
    rintro e w1 ⟨rfl, hb1⟩
    have HB1 := hq hb1
    clear HRT hb1
    go_wp2_with fail
    refine (rwidth_any o cap l w1 hl hc0 (HIN.o.grow HB1.o) HS.o).mono ?_
    rintro e w2 ⟨rfl, hb2⟩
    have HB2 := hq (below_trans HB1.o hb2)
    clear hb2 HB1
    go_wp2_with fail
    refine (rhunks_any o cap l w2 hl hc0 (HIN.o.grow HB2.o)).mono ?_
    rintro e w3 ⟨rfl, hb3⟩
    have HB3 := hq (below_trans HB2.o hb3)
    clear hb3 HB2
    have HAN := hq (anyH_nH l)
    generalize hn : widthM l = n at *
    have HWN := hq hn
    clear hn
    have hnl := nH_le l
    generalize nH l = N at *
    have HEL := hq hE
    clear hE
    generalize encM l = E at *
    have hnn : n ≤ 1073741824 := hwd
    go_upto_if 17 with fail
    go_cut [6] (fun v wx => v = .string (st (headIf (decide (0 < N)) n)) ∧ Hq (Below w.heap.size w wx))
    case first =>
      by_cases h0 : 0 < N
      · have HDC := hq (fun W => rdecimal_any (n : Int) W (by omega) (by omega))
        have HCT : Hq ((st headL ++ st (Lib.itoa (n : Int))) ++ st [10] = st (headB n)) := hq (by rw [cat_st, cat_st, itoa_nat]; unfold headB; rw [List.append_assoc])
        have hz2 : (Lib.itoa (n : Int)).length ≤ 1000 := Nat.le_trans (Lib.itoa_length_le _ (by omega) (by omega)) (by omega)
        have HD0 := hq (decide_eq_true h0)
        have h0i : (0 : Int) < (N : Int) := by omega
        generalize Lib.itoa (n : Int) = IT at *
        go_wp2_with fail
        refine (HDC.o _).mono ?_
        rintro e w4 ⟨rfl, hb4⟩
        have HB4 := hq (below_trans HB3.o hb4)
        clear HDC hb4
        go_wp2_with fail
        go_meet
        exact ⟨by rw [HD0.o]; exact congrArg Value.string HCT.o, HB4⟩
      · have HD0 := hq (decide_eq_false h0)
        have h0i : ¬ (0 : Int) < (N : Int) := by omega
        go_wp2_with fail
        go_meet
        exact ⟨by rw [HD0.o]; rfl, HB3⟩
    case rest =>
      obtain ⟨rfl, HBC⟩ := hcut
      have HEN2 : Hq (E = headIf (decide (0 < N)) n ++ encGo n (l.drop 0)) := hq (by rw [HEN.o, HAN.o])
      clear HEN HAN HB3
      generalize headIf (decide (0 < N)) n = HD at *
      go_wp2_with fail
      go_loopw [6, 7] (fun v i wr => ∃ (k : Nat) (acc : Bs), k ≤ l.length ∧ i = .int .i64 (k : Int) ∧ v = .string (st acc) ∧ Hq (E = acc ++ encGo n (l.drop k)) ∧ Hq (Below w.heap.size w wr)) (fun _ i _ => l.length - (intOf i).toNat)
      case atStart => exact ⟨0, HD, Nat.zero_le _, rfl, rfl, HEN2, HBC⟩
      case round =>
        obtain ⟨k, acc, hk, rfl, rfl, he, hb⟩ := hrel
        clear HEN2 HBC
        by_cases h : k < l.length
        · obtain ⟨b, f, rfl, hp⟩ := HIN.o k h
          obtain ⟨c0, c1, c2, c3, c4⟩ := hp.grow hb.o
          have HTX := hq (okL_text l true HOK.o l[k] (List.getElem_mem h))
          have HE2 : Hq (E = acc ++ (partB n l[k] ++ encGo n (l.drop (k + 1)))) := hq (by rw [he.o, encGo_step h])
          clear he hp HIN HS HOK
          generalize l[k] = x at *
          have hlen : acc.length + (partB n x).length ≤ 1099511627776 := by have := HEL.o; rw [HE2.o, List.length_append, List.length_append] at this; omega
          have HBX := hq (hb.o.alloc hb.o.size (.cells (partCs x) 53))
          have HPX : Hq (Ptn w wr.heap.size 0 x (wr.alloc (.cells (partCs x) 53))) := hq ⟨HBX.o, part_new wr x⟩
          clear hb
          cases hx : x.hunk with
          | false =>
            obtain ⟨xh, T, s0, s1, s2⟩ := x
            simp only at hx
            subst hx
            have hpt : (partB n ⟨false, T, s0, s1, s2⟩).length = T.length := by rw [partB_text rfl]
            have HN : Hq (E = (acc ++ T) ++ encGo n (l.drop (k + 1))) := hq (by rw [HE2.o, partB_text rfl, List.append_assoc])
            have HCT := hq (cat_st acc T)
            rw [hpt] at hlen
            unfold partCs at HBX
            simp only at HBX
            clear HE2 HTX HPX hpt
            go_wp2_with fail
            go_roundw
            case rel => exact ⟨k + 1, acc ++ T, h, int_eq (by omega), congrArg Value.string HCT.o, HN, HBX⟩
            case measure => simp [intOf]; omega
          | true =>
            obtain ⟨xh, xt, s0, s1, s2⟩ := x
            simp only at hx
            subst hx
            obtain rfl : xt = [] := HTX.o rfl
            have hpl : (partB n ⟨true, [], s0, s1, s2⟩).length = 4 * (n + 2) + s0.length + s1.length + s2.length := by
              unfold partB
              rw [if_pos rfl]
              simp only [List.length_append, mrk_len]
              omega
            rw [hpl] at hlen
            have HN : Hq (E = (acc ++ partB n ⟨true, [], s0, s1, s2⟩) ++ encGo n (l.drop (k + 1))) := hq (by rw [HE2.o, List.append_assoc])
            have HCT := hq (enc_cat n acc s0 s1 s2)
            have hz60 := sgB_size n 60
            have hz124 := sgB_size n 124
            have hz61 := sgB_size n 61
            have hz62 := sgB_size n 62
            have HSG : Hq (∀ (c : UInt8) (y : Int) (W : World), (c.toNat : Int) = y → Calls Tryd.prog 59 #[.int .u8 y, .int .i64 (n : Int)] W fun e w' => e = .returned (.string (sgB n c)) ∧ Below W.heap.size W w') := hq (fun c y W hy => by subst hy; exact rsigns_any c n W (by omega) (by omega))
            have HSQ : Hq (∀ (y : Int) (S : ByteArray) (W : World), (y = 60 ∧ S = sgB n 60 ∨ y = 124 ∧ S = sgB n 124 ∨ y = 61 ∧ S = sgB n 61 ∨ y = 62 ∧ S = sgB n 62) → Calls Tryd.prog 59 #[.int .u8 y, .int .i64 (n : Int)] W fun e w' => e = .returned (.string S) ∧ Below W.heap.size W w') := hq (fun y S W h => by
              rcases h with ⟨rfl, rfl⟩ | ⟨rfl, rfl⟩ | ⟨rfl, rfl⟩ | ⟨rfl, rfl⟩
              · exact HSG.o 60 60 W rfl
              · exact HSG.o 124 124 W rfl
              · exact HSG.o 61 61 W rfl
              · exact HSG.o 62 62 W rfl)
            generalize sgB n 60 = S60 at *
            generalize sgB n 124 = S124 at *
            generalize sgB n 61 = S61 at *
            generalize sgB n 62 = S62 at *
            unfold partCs at HBX HPX
            simp only at HBX HPX
            clear HE2 HTX hpl HSG
            go_upto_region 14 with fail
            generalize hg : wr.heap.size = g at *
            generalize wr.alloc (.cells #[.bool true, .string (st []), .string (st s0), .string (st s1), .string (st s2)] 53) = wx at *
            have hP := HPX.o
            have hcl := hP.cells
            simp only at hcl
            clear HPX HBX c0 c1 c2 c3 c4
            have fa0 : (9223372036854775807 ≤ acc.length) = False := eq_false (by omega)
            have fb0 : (9223372036854775807 < acc.length) = False := eq_false (by omega)
            have fa1 : (9223372036854775807 ≤ acc.length + 1) = False := eq_false (by omega)
            have fb1 : (9223372036854775807 < acc.length + 1) = False := eq_false (by omega)
            have fa2 : (9223372036854775807 ≤ acc.length + 1 + S60.size) = False := eq_false (by omega)
            have fb2 : (9223372036854775807 < acc.length + 1 + S60.size) = False := eq_false (by omega)
            have fa3 : (9223372036854775807 ≤ acc.length + 1 + S60.size + s1.length) = False := eq_false (by omega)
            have fb3 : (9223372036854775807 < acc.length + 1 + S60.size + s1.length) = False := eq_false (by omega)
            have fa4 : (9223372036854775807 ≤ acc.length + 1 + S60.size + s1.length + 1) = False := eq_false (by omega)
            have fb4 : (9223372036854775807 < acc.length + 1 + S60.size + s1.length + 1) = False := eq_false (by omega)
            have fa5 : (9223372036854775807 ≤ acc.length + 1 + S60.size + s1.length + 1 + S124.size) = False := eq_false (by omega)
            have fb5 : (9223372036854775807 < acc.length + 1 + S60.size + s1.length + 1 + S124.size) = False := eq_false (by omega)
            have fa6 : (9223372036854775807 ≤ acc.length + 1 + S60.size + s1.length + 1 + S124.size + s0.length) = False := eq_false (by omega)
            have fb6 : (9223372036854775807 < acc.length + 1 + S60.size + s1.length + 1 + S124.size + s0.length) = False := eq_false (by omega)
            have fa7 : (9223372036854775807 ≤ acc.length + 1 + S60.size + s1.length + 1 + S124.size + s0.length + 1) = False := eq_false (by omega)
            have fb7 : (9223372036854775807 < acc.length + 1 + S60.size + s1.length + 1 + S124.size + s0.length + 1) = False := eq_false (by omega)
            have fa8 : (9223372036854775807 ≤ acc.length + 1 + S60.size + s1.length + 1 + S124.size + s0.length + 1 + S61.size) = False := eq_false (by omega)
            have fb8 : (9223372036854775807 < acc.length + 1 + S60.size + s1.length + 1 + S124.size + s0.length + 1 + S61.size) = False := eq_false (by omega)
            have fa9 : (9223372036854775807 ≤ acc.length + 1 + S60.size + s1.length + 1 + S124.size + s0.length + 1 + S61.size + s2.length) = False := eq_false (by omega)
            have fb9 : (9223372036854775807 < acc.length + 1 + S60.size + s1.length + 1 + S124.size + s0.length + 1 + S61.size + s2.length) = False := eq_false (by omega)
            have fa10 : (9223372036854775807 ≤ acc.length + 1 + S60.size + s1.length + 1 + S124.size + s0.length + 1 + S61.size + s2.length + 1) = False := eq_false (by omega)
            have fb10 : (9223372036854775807 < acc.length + 1 + S60.size + s1.length + 1 + S124.size + s0.length + 1 + S61.size + s2.length + 1) = False := eq_false (by omega)
            have fa11 : (9223372036854775807 ≤ acc.length + 1 + S60.size + s1.length + 1 + S124.size + s0.length + 1 + S61.size + s2.length + 1 + S62.size) = False := eq_false (by omega)
            have fb11 : (9223372036854775807 < acc.length + 1 + S60.size + s1.length + 1 + S124.size + s0.length + 1 + S61.size + s2.length + 1 + S62.size) = False := eq_false (by omega)
            clear hz60 hz124 hz61 hz62
            go_region_held3 (fun W => Ptn w g 0 ⟨true, [], s0, s1, s2⟩ W ∧ W.cell? ⟨g, 0, none⟩ = some (.bool true) ∧ W.cell? ⟨g, 0 + 1, none⟩ = some (.string (st [])) ∧ W.cell? ⟨g, 0 + 2, none⟩ = some (.string (st s0)) ∧ W.cell? ⟨g, 0 + 3, none⟩ = some (.string (st s1)) ∧ W.cell? ⟨g, 0 + 4, none⟩ = some (.string (st s2)))
              (first | exact ⟨hP.drew, hP.drew.cells⟩ | exact ⟨hT2, hT2.cells⟩)
              ((go_at_call 59; refine (HSQ.o _ _ _ (by first | exact .inl ⟨rfl, rfl⟩ | exact .inr (.inl ⟨rfl, rfl⟩) | exact .inr (.inr (.inl ⟨rfl, rfl⟩)) | exact .inr (.inr (.inr ⟨rfl, rfl⟩)))).mono ?_; rintro e' w9 ⟨rfl, hb9⟩; have hT2 : Ptn w g 0 ⟨true, [], s0, s1, s2⟩ w9 := Ptn.grow (And.left (by assumption)) hb9))
            all_goals
              go_wp2_with fail
              go_roundw
              case rel => exact ⟨k + 1, acc ++ partB n ⟨true, [], s0, s1, s2⟩, h, int_eq (by omega), congrArg Value.string HCT.o, HN, hq hT2.bel⟩
              case measure => simp [intOf]; omega
        · have h' : ¬ (k : Int) < (l.length : Int) := by omega
          have HN : Hq (E = acc) := hq (by rw [he.o, encGo_end h, List.append_nil])
          clear he h
          go_wp2_with fail
          rw [← HN.o]
          exact HP.o _ hb.o
theorem renc_few (N : Nat) (o : Option Addr) (cap : Nat) (l : List MPart) (w : World) (hl : l.length ≤ cap) (hc : cap ≤ maxLen) (hin : PartsIn w o l) (hN : N ≤ 16777216) (hs : ∀ x ∈ l, Lens N x) :
    Calls Tryd.prog 25 #[.slice o l.length cap] w (EncPost l w) :=
  renc_any o cap l w hl hc hin (fun x hx => lens_mono (by omega) (hs x hx)) (fun hr => enc_le 16777216 l (by decide) (by decide) (fun x hx => lens_mono hN (hs x hx)) (right_len hr)) (Nat.le_trans (widthM_le (N := 16777216) (by decide) (fun x hx => lens_mono hN (hs x hx))) (by decide))
end Go.Proofs.YtekihjffefokjaaDoor
