/-
  WALK: small of layer 7.
  WALK: pointer.Compare, what it answers.
-/
import Derived.Test.YtabfojdieegklaaGreatDoorPx1
import Derived.Test.YtabfojdieegklaaGreatDoorPtp
import Derived.Test.YtabfojdieegklaaGreatDoorVuM
import Derived.Test.YtabfojdieegklaaGreatDoorRua

namespace Go.Proofs.YtabfojdieegklaaGreatDoor
open Go.RowKit

theorem px_text : ptxM [[97, 47, 98], [126], []] = ([47, 97, 126, 49, 98, 47, 126, 48, 47], 0) := by kernel_rfl
theorem px_p1 : pparseM [97] = ([], 2) := by kernel_rfl
theorem px_p2 : pparseM [47, 126, 50] = ([], 2) := by kernel_rfl
theorem px_p3 : pparseM [] = ([], 0) := by kernel_rfl
/-- the tree of small -/
def pT (gk gi gr : Nat) : Vt := .mk 6 [] ⟨some ⟨gk, 0, none⟩, 1, [[97]]⟩ (some ⟨gr, 0, none⟩) 1 [.mk 5 [] ⟨none, 0, []⟩ (some ⟨gi, 0, none⟩) 2 [leafT 3 [49], leafT 3 [50]]]
def pL : Vl := .mk 6 [] [[97]] [.mk 5 [] [] [oneL, twoL]]
theorem pT_m (a b c : Nat) : (pT a b c).m = pL := by unfold pT; rw [Vt.m_mk]; simp only [List.map_cons, List.map_nil, Vt.m_mk, leaf_m]; rfl
theorem px_f1 : pfindM pL [[97], [49]] = some twoL := by kernel_rfl
theorem px_f2 : pfindM pL [[97], [48, 49]] = none := by kernel_rfl
set_option maxHeartbeats 16000000 in
set_option maxRecDepth 1000000 in
theorem smallP_any (w : World) (hE : Env w) (hM : mx w) : Calls Tryz.prog 14 #[] w (BPost true w) := by
  have HN1 : Hq (∀ V, Below w.heap.size w V → Calls Tryz.prog 50 #[.int .i64 1] V (LeafPost 3 [49] V)) := hq (fun V hV => by have := vNum_any 1 V (hE.grow hV).its (by decide) (by decide); rwa [txt1] at this)
  have HN2 : Hq (∀ V, Below w.heap.size w V → Calls Tryz.prog 50 #[.int .i64 2] V (LeafPost 3 [50] V)) := hq (fun V hV => by have := vNum_any 2 V (hE.grow hV).its (by decide) (by decide); rwa [txt2] at this)
  have HTX := hq (fun (p : SRow) V (hV : Below w.heap.size w V) (hp : p.ok V) (hs : ShtT p.l) => ptxt_any p V (hE.grow hV).tab (mx_grow hM hV) hp hs)
  have HPA := hq (fun (s : Bs) V (hV : Below w.heap.size w V) (hs : s.length ≤ 134217728) => pparse_any s V (hE.grow hV).tab (mx_grow hM hV) hs)
  have HE := hq (fun V (hV : Below w.heap.size w V) => hE.grow hV)
  have HP : Hq (∀ W', Below w.heap.size w W' → BPost true w (.returned (.bool true)) W') := hq (fun W' h => ⟨rfl, h⟩)
  generalize BPost true w = PP at *
  clear hE hM
  go_enter Tryz.func14, Tryz.ntmps14
  go_upto_region 1 with fail
  go_wp2_with fail
  have hb : Below w.heap.size w (w.alloc (.cells #[.string ⟨#[97, 47, 98]⟩, .string ⟨#[126]⟩, .string ⟨#[]⟩] 9)) := below_alloc w _
  have hS := whole_strs (l := [[97, 47, 98], [126], []]) (Whole.made w 9 #[.string ⟨#[97, 47, 98]⟩, .string ⟨#[126]⟩, .string ⟨#[]⟩]) rfl
  have HC := HTX.o ⟨some ⟨w.heap.size, 0, none⟩, 3, [[97, 47, 98], [126], []]⟩ _ hb ⟨Nat.le_refl _, (show 3 ≤ maxLen by decide), hS⟩ (fun x hx => by simp at hx; rcases hx with rfl | rfl | rfl <;> decide)
  simp only [SRow.v] at HC
  rw [px_text] at HC
  refine (HC).mono ?_
  rintro e w1 ⟨rfl, hb1⟩
  replace hb := below_trans hb hb1
  clear hS HC hb1
  go_wp2_with fail
  have HC := HPA.o [97] _ hb (by decide)
  rw [px_p1] at HC
  refine HC.mono ?_
  rintro e w2 ⟨o1, c1, rfl, _, hb2⟩
  replace hb := below_trans hb hb2
  clear HC hb2
  go_wp2_with fail
  have HC := HPA.o [47, 126, 50] _ hb (by decide)
  rw [px_p2] at HC
  refine HC.mono ?_
  rintro e w3 ⟨o2, c2, rfl, _, hb3⟩
  replace hb := below_trans hb hb3
  clear HC hb3
  go_wp2_with fail
  have HC := HPA.o [] _ hb (by decide)
  rw [px_p3] at HC
  refine HC.mono ?_
  rintro e w4 ⟨o3, c3, rfl, _, hb4⟩
  replace hb := below_trans hb hb4
  clear HC hb4
  go_wp2_with fail
  have hK := Whole.made w4 9 #[.string ⟨#[97]⟩]
  replace hb := hb.alloc hb.size (.cells #[.string ⟨#[97]⟩] 9)
  refine (HN1.o _ hb).mono ?_
  rintro e w5 ⟨rfl, hb5⟩
  rw [leafT_v]
  replace hK := hK.grow hb5
  replace hb := below_trans hb hb5
  clear hb5
  go_wp2_with fail
  refine (HN2.o _ hb).mono ?_
  rintro e w6 ⟨rfl, hb6⟩
  rw [leafT_v]
  replace hK := hK.grow hb6
  replace hb := below_trans hb hb6
  clear hb6
  go_wp2_with fail
  have hI := Whole.made w6 37 #[.int .i64 3, .string (st [49]), .slice none 0 0, .slice none 0 0, .int .i64 3, .string (st [50]), .slice none 0 0, .slice none 0 0]
  replace hK := hK.alloc (.cells #[.int .i64 3, .string (st [49]), .slice none 0 0, .slice none 0 0, .int .i64 3, .string (st [50]), .slice none 0 0, .slice none 0 0] 37)
  replace hb := hb.alloc hb.size (.cells #[.int .i64 3, .string (st [49]), .slice none 0 0, .slice none 0 0, .int .i64 3, .string (st [50]), .slice none 0 0, .slice none 0 0] 37)
  refine (vRow_any _ _ _ _).mono ?_
  rintro e w7 ⟨rfl, hb7⟩
  replace hK := hK.grow hb7
  replace hI := hI.grow hb7
  replace hb := below_trans hb hb7
  clear hb7
  go_wp2_with fail
  have hR := Whole.made w7 37 #[.int .i64 5, .string ⟨#[]⟩, .slice none 0 0, .slice (some ⟨w6.heap.size, 0, none⟩) 2 2]
  replace hK := hK.alloc (.cells #[.int .i64 5, .string ⟨#[]⟩, .slice none 0 0, .slice (some ⟨w6.heap.size, 0, none⟩) 2 2] 37)
  replace hI := hI.alloc (.cells #[.int .i64 5, .string ⟨#[]⟩, .slice none 0 0, .slice (some ⟨w6.heap.size, 0, none⟩) 2 2] 37)
  replace hb := hb.alloc hb.size (.cells #[.int .i64 5, .string ⟨#[]⟩, .slice none 0 0, .slice (some ⟨w6.heap.size, 0, none⟩) 2 2] 37)
  refine (vMap_any _ _ _ _ _ _ _).mono ?_
  rintro e w8 ⟨rfl, hb8⟩
  replace hK := hK.grow hb8
  replace hI := hI.grow hb8
  replace hR := hR.grow hb8
  replace hb := below_trans hb hb8
  clear hb8
  have hF : Fine (pT w4.heap.size w6.heap.size w7.heap.size) w8 := by
    refine ⟨map_ok (kl := [[97]]) (l := [.mk 5 [] ⟨none, 0, []⟩ (some ⟨w6.heap.size, 0, none⟩) 2 [leafT 3 [49], leafT 3 [50]]]) hK rfl hR rfl (by decide) (by decide) (by exact (by decide : (1 : Nat) ≤ 1000)) (one_ok (arr_ok (l := [leafT 3 [49], leafT 3 [50]]) hI rfl (by exact (by decide : (2 : Nat) ≤ 1000)) (two_ok (lf_ok _ _) (lf_ok _ _)))), ?_, ?_⟩
    · rw [pT_m]; exact lim_small (by kernel_rfl)
    · rw [pT_m, show pL.size = 4 by kernel_rfl]; decide
  clear hK hI hR
  have HF := hq hF
  clear hF
  have HV8 := hq (show (pT w4.heap.size w6.heap.size w7.heap.size).v = .agg #[.int .i64 6, .string ⟨#[]⟩, .slice (some ⟨w4.heap.size, 0, none⟩) 1 1, .slice (some ⟨w7.heap.size, 0, none⟩) 1 1] from rfl)
  have HM8 := hq (pT_m w4.heap.size w6.heap.size w7.heap.size)
  generalize pT w4.heap.size w6.heap.size w7.heap.size = T at *
  generalize w4.heap.size = n4 at *
  generalize w6.heap.size = n6 at *
  generalize w7.heap.size = n7 at *
  go_wp2_with fail
  have hbw : Below w8.heap.size w8 (w8.alloc (.cells #[.int .i64 6, .string ⟨#[]⟩, .slice (some ⟨n4, 0, none⟩) 1 1, .slice (some ⟨n7, 0, none⟩) 1 1] 37)) := below_alloc w8 _
  have hbx := Whole.made w8 37 #[.int .i64 6, .string ⟨#[]⟩, .slice (some ⟨n4, 0, none⟩) 1 1, .slice (some ⟨n7, 0, none⟩) 1 1]
  have hs1 := Whole.made (w8.alloc (.cells #[.int .i64 6, .string ⟨#[]⟩, .slice (some ⟨n4, 0, none⟩) 1 1, .slice (some ⟨n7, 0, none⟩) 1 1] 37)) 9 #[.string ⟨#[97]⟩, .string ⟨#[49]⟩]
  replace hbw := hbw.alloc hbw.size (.cells #[.string ⟨#[97]⟩, .string ⟨#[49]⟩] 9)
  replace hbx := hbx.alloc (.cells #[.string ⟨#[97]⟩, .string ⟨#[49]⟩] 9)
  simp only [World.size_alloc] at hs1
  replace hb := below_trans hb hbw
  replace HF := hq (HF.o.grow hbw)
  clear hbw
  generalize ((w8.alloc (.cells #[.int .i64 6, .string ⟨#[]⟩, .slice (some ⟨n4, 0, none⟩) 1 1, .slice (some ⟨n7, 0, none⟩) 1 1] 37)).alloc (.cells #[.string ⟨#[97]⟩, .string ⟨#[49]⟩] 9)) = u0 at *
  generalize w8.heap.size = n8 at *
  have HC := pFind_any T (some ⟨n8 + 1, 0, none⟩) 2 [[97], [49]] u0 (HE.o _ hb) HF.o ⟨Nat.le_refl _, (show 2 ≤ maxLen by decide), whole_strs (l := [[97], [49]]) hs1 rfl⟩ (fun x hx => by simp at hx; rcases hx with rfl | rfl <;> (show 1 ≤ maxLen; decide))
  rw [HM8.o, px_f1, HV8.o] at HC
  refine HC.mono ?_
  rintro e u1 ⟨y, rfl, _, hym, hbu⟩
  clear HC hs1
  obtain ⟨yk, yt, ⟨yko, ykc, ykl⟩, yo, yc, yis⟩ := y
  have hyt : yt = [50] := by
    rw [Vt.m_mk] at hym
    have := congrArg Vl.t hym
    exact this
  subst hyt
  clear hym
  rw [Vt.v_mk']
  replace hb := below_trans hb hbu
  replace hbx := hbx.grow hbu
  replace HF := hq (HF.o.grow hbu)
  clear hbu
  have hbw : Below u1.heap.size u1 (u1.alloc (.cells #[.int .i64 yk, .string (st [50]), .slice yko ykl.length ykc, .slice yo yis.length yc] 37)) := below_alloc u1 _
  have hby := Whole.made u1 37 #[.int .i64 yk, .string (st [50]), .slice yko ykl.length ykc, .slice yo yis.length yc]
  have hbx1 := hbx.alloc (.cells #[.int .i64 yk, .string (st [50]), .slice yko ykl.length ykc, .slice yo yis.length yc] 37)
  obtain ⟨c0, c1, c2, c3⟩ := four_cells hbx1
  go_wp2_with fail
  have hbn := hb.size
  have hs2 := Whole.made (u1.alloc (.cells #[.int .i64 yk, .string (st [50]), .slice yko ykl.length ykc, .slice yo yis.length yc] 37)) 9 #[.string ⟨#[97]⟩, .string ⟨#[48, 49]⟩]
  replace hbw := hbw.alloc hbw.size (.cells #[.string ⟨#[97]⟩, .string ⟨#[48, 49]⟩] 9)
  replace hby := hby.alloc (.cells #[.string ⟨#[97]⟩, .string ⟨#[48, 49]⟩] 9)
  simp only [World.size_alloc] at hs2
  replace hb := below_trans hb hbw
  replace HF := hq (HF.o.grow hbw)
  clear hbw hbx hbx1 c0 c1 c2 c3
  generalize ((u1.alloc (.cells #[.int .i64 yk, .string (st [50]), .slice yko ykl.length ykc, .slice yo yis.length yc] 37)).alloc (.cells #[.string ⟨#[97]⟩, .string ⟨#[48, 49]⟩] 9)) = u2 at *
  generalize u1.heap.size = m1 at *
  have HC := pFind_any T (some ⟨m1 + 1, 0, none⟩) 2 [[97], [48, 49]] u2 (HE.o _ hb) HF.o ⟨Nat.le_refl _, (show 2 ≤ maxLen by decide), whole_strs (l := [[97], [48, 49]]) hs2 rfl⟩ (fun x hx => by simp at hx; rcases hx with rfl | rfl; (show 1 ≤ maxLen; decide); (show 2 ≤ maxLen; decide))
  rw [HM8.o, px_f2, HV8.o] at HC
  refine HC.mono ?_
  rintro e u3 ⟨y, rfl, _, _, hbu⟩
  clear HC hs2
  obtain ⟨zk, zt, ⟨zko, zkc, zkl⟩, zo, zc, zis⟩ := y
  rw [Vt.v_mk']
  replace hb := below_trans hb hbu
  replace hby := hby.grow hbu
  clear hbu HF HV8 HM8
  have hby2 := hby.alloc (.cells #[.int .i64 zk, .string (st zt), .slice zko zkl.length zkc, .slice zo zis.length zc] 37)
  replace hb := hb.alloc hb.size (.cells #[.int .i64 zk, .string (st zt), .slice zko zkl.length zkc, .slice zo zis.length zc] 37)
  obtain ⟨c0, c1, c2, c3⟩ := four_cells hby2
  have ct : ((st [47, 97, 126, 49, 98, 47, 126, 48, 47]).toList == [47, 97, 126, 49, 98, 47, 126, 48, 47]) = true := by kernel_rfl
  have cu : ((st [50]).toList == [50]) = true := by kernel_rfl
  clear HN1 HN2 HTX HPA HE c0 c2 c3
  go_wp2_with fail
  exact HP.o _ hb
end Go.Proofs.YtabfojdieegklaaGreatDoor

namespace Go.Proofs.YtabfojdieegklaaGreatDoor
open Go.RowKit

theorem lex_eq {a b : List Bs} {k : Nat} (h : k < a.length) (h' : k < b.length) (e : cmpB a[k] b[k] = 0) : lexM cmpB (a.drop k) (b.drop k) = lexM cmpB (a.drop (k + 1)) (b.drop (k + 1)) := by
  rw [List.drop_eq_getElem_cons h, List.drop_eq_getElem_cons h']
  simp only [lexM]
  rw [if_neg (by simpa using e)]
theorem lex_ne {a b : List Bs} {k : Nat} (h : k < a.length) (h' : k < b.length) (e : ¬ cmpB a[k] b[k] = 0) : lexM cmpB (a.drop k) (b.drop k) = cmpB a[k] b[k] := by
  rw [List.drop_eq_getElem_cons h, List.drop_eq_getElem_cons h']
  simp only [lexM]
  rw [if_pos e]
theorem lex_len {a b : List Bs} {k : Nat} (h : k = min a.length b.length) : lexM cmpB (a.drop k) (b.drop k) = Lib.compareInt (a.length : Int) (b.length : Int) := by
  unfold Lib.compareInt
  by_cases h1 : a.length < b.length
  · rw [List.drop_of_length_le (by omega : a.length ≤ k), List.drop_eq_getElem_cons (by omega : k < b.length), if_pos (by omega)]
    rfl
  · rw [if_neg (by omega), List.drop_of_length_le (by omega : b.length ≤ k)]
    by_cases h2 : b.length < a.length
    · rw [List.drop_eq_getElem_cons (by omega : k < a.length), if_pos (by omega)]
      rfl
    · rw [List.drop_of_length_le (by omega : a.length ≤ k), if_neg (by omega)]
      rfl
def PcPost (la lb : List Bs) (w : World) (e : Ending) (w' : World) : Prop := e = .returned (.int .i64 (lexM cmpB la lb)) ∧ Below w.heap.size w w'
set_option maxHeartbeats 2000000 in
set_option maxRecDepth 1000000 in
theorem pcompX_any (o o' : Option Addr) (cap cap' : Nat) (la lb : List Bs) (w : World) (hl : la.length ≤ cap) (hc : cap ≤ maxLen) (hin : StrsIn w o la) (_hl' : lb.length ≤ cap') (_hc' : cap' ≤ maxLen) (hin' : StrsIn w o' lb) :
    Calls Tryz.prog 25 #[.slice o la.length cap, .slice o' lb.length cap'] w (PcPost la lb w) := by
  have HA := hq hin
  have HB := hq hin'
  unfold maxLen at hc _hc'
  clear hin hin'
  have HP : Hq (∀ (c : Int) w', c = lexM cmpB la lb → Below w.heap.size w w' → PcPost la lb w (.returned (.int .i64 c)) w') := hq (fun c w' h1 h2 => ⟨by rw [h1], h2⟩)
  have HSC := hq (fun (x y : Bs) WW => Tryz.strings_Compare (st x) (st y) WW)
  have HCI := hq (fun (x y : Int) WW => Tryz.cmp_Compare_int x y WW)
  generalize PcPost la lb w = PP at *
  go_enter Tryz.func25, Tryz.ntmps25
  go_wp2_with fail
  go_loopw [4, 5, 6, 12] (fun r4 _ _ i wr => ∃ k : Nat, k ≤ la.length ∧ k ≤ lb.length ∧ i = .int .i64 (k : Int) ∧ Hq (lexM cmpB la lb = lexM cmpB (la.drop k) (lb.drop k)) ∧ Hq (Below w.heap.size w wr)) (fun _ _ _ i _ => la.length - (intOf i).toNat)
  case atStart => exact ⟨0, Nat.zero_le _, Nat.zero_le _, rfl, hq rfl, hq (Below.refl _ _)⟩
  case round =>
    obtain ⟨k, hk, hk', rfl, ht, hb⟩ := hrel
    by_cases h : k < la.length ∧ k < lb.length
    · obtain ⟨h, h2⟩ := h
      have hkz : (k : Int) < min (la.length : Int) (lb.length : Int) := by omega
      have hkz1 : (k : Int) < (la.length : Int) := by omega
      have hkz2 : (k : Int) < (lb.length : Int) := by omega
      obtain ⟨b, f, rfl, hcell⟩ := HA.o k h
      obtain ⟨b', f', rfl, hcell'⟩ := HB.o k h2
      have c0 := (hb.o.cell (cell_blk hcell)).trans hcell
      have c1 := (hb.o.cell (cell_blk hcell')).trans hcell'
      have HN := hq (fun (e : Lib.compareBytes la[k] lb[k] = 0) => ht.o.trans (lex_eq h h2 e))
      have HE := hq (fun (e : ¬ Lib.compareBytes la[k] lb[k] = 0) => (show Lib.compareBytes la[k] lb[k] = lexM cmpB la lb from (ht.o.trans (lex_ne h h2 e)).symm))
      clear hcell hcell' ht HA HB
      generalize la[k] = x at *
      generalize lb[k] = y at *
      have HC := hq (fun WW => HSC.o x y WW)
      have HC2 : Hq (∀ WW, Calls Tryz.prog 62 #[.string (st x), .string (st y)] WW fun e w' => e = .returned (.int .i64 (Lib.compareBytes x y)) ∧ w' = WW) := HC
      clear HC HSC HCI
      generalize Lib.compareBytes x y = c at *
      by_cases hz : c = 0
      · have HN2 := hq (HN.o hz)
        have HB2 := hq hb.o.drew
        subst hz
        clear HN HE HP hb
        go_upto_region 4 with fail
        go_region_with (go_at_call 62; refine (HC2.o _).mono ?_; rintro e' w9 ⟨rfl, rfl⟩)
        all_goals (try go_wp2_with fail)
        all_goals go_roundw
        all_goals first | exact ⟨k + 1, h, h2, int_eq (by omega), HN2, HB2⟩ | (simp [intOf]; omega)
      · have hzb : (c == 0) = false := beq_eq_false_iff_ne.2 hz
        have hzb' : (c != 0) = true := by rw [bne, hzb]; rfl
        have HV := hq (HP.o c wr.drew (HE.o hz) hb.o.drew)
        clear HN HE HP hb
        go_upto_region 4 with fail
        go_region_with (go_at_call 62; refine (HC2.o _).mono ?_; rintro e' w9 ⟨rfl, rfl⟩)
        all_goals (try go_wp2_with fail)
        all_goals first | exact HV.o | (go_ret; exact HV.o)
    · have hkz : ¬ (k : Int) < min (la.length : Int) (lb.length : Int) := by omega
      have HV := hq (HP.o (Lib.compareInt la.length lb.length) wr (ht.o.trans (lex_len (by omega))).symm hb.o)
      clear ht HP HA HB HSC
      go_wp2_with fail
      refine (HCI.o _ _ _).mono ?_
      rintro e w9 ⟨rfl, rfl⟩
      go_wp2_with fail
      first | exact HV.o | (go_ret; exact HV.o)
end Go.Proofs.YtabfojdieegklaaGreatDoor
