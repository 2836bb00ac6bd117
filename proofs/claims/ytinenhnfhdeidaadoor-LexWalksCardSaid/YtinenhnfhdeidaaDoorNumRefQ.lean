/-
  WALKS: the document's Parse.
-/
import Derived.Test.YtinenhnfhdeidaaDoorNumRefP
namespace Go.Proofs.YtinenhnfhdeidaaDoor
open Go.RowKit

theorem stripZ_step (c d : UInt8) (x : Bs) : stripZ (c :: d :: x) = if c = 48 then stripZ (d :: x) else c :: d :: x := by rw [stripZ]
def zeroAhead : Bs → Bool
  | c :: _ :: _ => (c.toNat : Int) == 48
  | _ => false
theorem zeroAhead_no {x : Bs} (h : zeroAhead x = false) : stripZ x = x := by
  cases x with
  | nil => rfl
  | cons c x =>
    cases x with
    | nil => rfl
    | cons d x =>
      have h1 : ((c.toNat : Int) == 48) = false := h
      rw [stripZ_step, if_neg]
      intro hc
      subst hc
      simp at h1
theorem zeroAhead_yes {x : Bs} (h : zeroAhead x = true) : stripZ x = stripZ x.tail ∧ x.tail.length + 1 = x.length := by
  cases x with
  | nil => cases h
  | cons c x =>
    cases x with
    | nil => cases h
    | cons d x =>
      have h1 : ((c.toNat : Int) == 48) = true := h
      rw [beq_iff_eq] at h1
      have h2 : c = 48 := UInt8.toNat_inj.1 (show c.toNat = 48 by omega)
      rw [stripZ_step, if_pos h2]
      exact ⟨rfl, rfl⟩
def noughtAhead : Bs → Bool
  | c :: _ => (c.toNat : Int) == 48
  | _ => false
theorem noughtAhead_eq (c : UInt8) (x : Bs) : noughtAhead (c :: x) = true ↔ c = 48 := by
  show ((c.toNat : Int) == 48) = true ↔ _
  rw [beq_iff_eq, ← UInt8.toNat_inj]
  show _ ↔ c.toNat = 48
  omega
theorem noughtAhead_no {x : Bs} (h : noughtAhead x = false) : stripL x = x := by
  cases x with
  | nil => rfl
  | cons c x => rw [stripL_cons, if_neg (fun hc => by rw [(noughtAhead_eq c x).2 hc] at h; cases h)]
theorem noughtAhead_yes {x : Bs} (h : noughtAhead x = true) : stripL x = stripL x.tail ∧ x.tail.length + 1 = x.length := by
  cases x with
  | nil => cases h
  | cons c x => rw [stripL_cons, if_pos ((noughtAhead_eq c x).1 h)]; exact ⟨rfl, rfl⟩
theorem stripR_step (y : Bs) (c : UInt8) : stripR (y ++ [c]) = if c = 48 then stripR y else y ++ [c] := stripR_snoc y c
theorem snoc_of {y : Bs} (h : y ≠ []) : ∃ z c, y = z ++ [c] := ⟨y.dropLast, y.getLast h, (List.dropLast_concat_getLast h).symm⟩
theorem dig_sub {c : Nat} (h : 48 ≤ c) (h' : c ≤ 57) : IntKind.u8.wrap ((c : Int) - 48) = (c : Int) - 48 := by
  unfold IntKind.wrap
  simp [IntKind.bits, IntKind.signed]
  omega

theorem rexp_facts (l : Bs) : (rexp l).2.length ≤ l.length + 1 := by
  cases l with
  | nil => simp [rexp]
  | cons a b =>
    have h1 : b.tail.length ≤ b.length := by rw [List.length_tail]; omega
    unfold rexp
    simp only [List.length_cons]
    split
    · simp only; omega
    · simp only; split <;> omega
theorem rpartsW_len (neg : Bool) (m : Bs) : (rpartsW neg m).whole.length ≤ m.length ∧ (rpartsW neg m).frac.length ≤ m.length ∧ (rpartsW neg m).exp.length ≤ m.length + 1 ∧ ((rpartsW neg m).ok = true → (rpartsW neg m).exp.all isDig = true) := by
  unfold rpartsW
  simp only
  have h1 := (List.takeWhile_prefix notE (l := m)).length_le
  have h2 := (List.takeWhile_prefix notPt (l := m.takeWhile notE)).length_le
  have h3 := (List.dropWhile_suffix notPt (l := m.takeWhile notE)).length_le
  have h4 := (List.dropWhile_suffix notE (l := m)).length_le
  have h5 := rexp_facts (m.dropWhile notE)
  have h6 : (rfrac ((m.takeWhile notE).dropWhile notPt)).length ≤ ((m.takeWhile notE).dropWhile notPt).length := by
    cases (m.takeWhile notE).dropWhile notPt with
    | nil => simp [rfrac]
    | cons a b => simp [rfrac]
  refine ⟨by omega, by omega, by omega, fun h => ?_⟩
  simp only [Bool.and_eq_true] at h
  exact (of_decide_eq_true h.1.2).2
theorem rpartsM_len (l : Bs) : (rpartsM l).whole.length ≤ l.length ∧ (rpartsM l).frac.length ≤ l.length ∧ (rpartsM l).exp.length ≤ l.length + 1 ∧ ((rpartsM l).ok = true → (rpartsM l).exp.all isDig = true) := by
  unfold rpartsM
  split
  · obtain ⟨a, b, c, d⟩ := rpartsW_len true l.tail
    rw [List.length_tail] at a b c
    exact ⟨by omega, by omega, by omega, d⟩
  · exact rpartsW_len false l
def PPost (r : Dec × Int) (w : World) (e : Ending) (w' : World) : Prop := e = .returned (.tuple #[r.1.val, .int .i64 r.2]) ∧ Below w.heap.size w w'

set_option maxHeartbeats 4000000 in
set_option maxRecDepth 1000000 in
theorem rparse_any (l : Bs) (w : World) (hl : l.length ≤ 1099511627776) :
    Calls Tryd.prog 43 #[.string (st l)] w (PPost (parseM l) w) := by
  rw [← rparseM_eq]
  generalize hR : rparseM l = R
  have HR := hq hR
  clear hR
  go_enter Tryd.func43, Tryd.ntmps43
  have hW := Whole.made w 79 #[.bool false, .string (st []), .int .i64 0]
  have hb := below_alloc w (.cells #[.bool false, .string (st []), .int .i64 0] 79)
  go_wp2_with fail
  refine (rparts_any l _ hl).mono ?_
  rintro e w1 ⟨rfl, hw1⟩
  obtain rfl := hw1.symm
  have HR2 : Hq (R = (if (rpartsM l).ok = false then (.zero, 2) else if 1000 < (rpartsM l).whole.length + (rpartsM l).frac.length then (.zero, 3)
    else if 9 < (stripZ (rpartsM l).exp).length then (.zero, 4) else rnum (rpartsM l).neg (rpartsM l).down (stripZ (rpartsM l).exp) (rpartsM l).frac (stripL ((rpartsM l).whole ++ (rpartsM l).frac)))) := hq HR.o.symm
  have hlen : (rpartsM l).whole.length ≤ 1099511627776 ∧ (rpartsM l).frac.length ≤ 1099511627776 ∧ (rpartsM l).exp.length ≤ 1099511627777 := by
    obtain ⟨a, b, c, _⟩ := rpartsM_len l
    exact ⟨by omega, by omega, by omega⟩
  have hdg : (rpartsM l).ok = true → (rpartsM l).exp.all isDig = true := (rpartsM_len l).2.2.2
  have HDG := hq hdg
  clear hdg
  generalize rpartsM l = q at *
  obtain ⟨neg, whole, frac, down, ex, ok⟩ := q
  simp only at HR2 hlen HDG ⊢
  clear HR
  obtain ⟨hl1, hl2, hl3⟩ := hlen
  generalize hWW : w.alloc (.cells #[.bool false, .string (st []), .int .i64 0] 79) = W at *
  clear hWW
  obtain ⟨r0, r1, r2⟩ := three_cells hW
  have q0 := hW.free 0
  have q1 := hW.free 1
  have q2 := hW.free 2
  cases ok with
  | false =>
    have HN := hq (HR2.o.trans (if_pos rfl))
    clear HR2
    go_wp2_with fail
    refine bodyPost_ret (v := .tuple #[Dec.zero.val, .int .i64 2]) ?_ rfl ?_
    · obtain ⟨z0, z1, z2⟩ := three_cells (by simpa using (((hW.put 0 (.bool false)).put 1 (.string ⟨#[]⟩)).put 2 (.int .i64 0)))
      simp [results, Tryd.results43, go_sem, z0, z1, z2, Dec.zero, Dec.val]
    · exact ⟨by rw [HN.o], ((hb.setCell (p := ⟨w.heap.size, 0, none⟩) (by simp) _).setCell (p := ⟨w.heap.size, 1, none⟩) (by simp) _).setCell (p := ⟨w.heap.size, 2, none⟩) (by simp) _⟩
  | true =>
    have HR3 := hq (HR2.o.trans (if_neg (by simp)))
    clear HR2
    by_cases hk : 1000 < whole.length + frac.length
    · have HN := hq (HR3.o.trans (if_pos hk))
      clear HR3
      go_wp2_with fail
      refine bodyPost_ret (v := .tuple #[Dec.zero.val, .int .i64 3]) ?_ rfl ?_
      · obtain ⟨z0, z1, z2⟩ := three_cells (by simpa using (((hW.put 0 (.bool false)).put 1 (.string ⟨#[]⟩)).put 2 (.int .i64 0)))
        simp [results, Tryd.results43, go_sem, z0, z1, z2, Dec.zero, Dec.val]
      · exact ⟨by rw [HN.o], ((hb.setCell (p := ⟨w.heap.size, 0, none⟩) (by simp) _).setCell (p := ⟨w.heap.size, 1, none⟩) (by simp) _).setCell (p := ⟨w.heap.size, 2, none⟩) (by simp) _⟩
    · have HR4 := hq (HR3.o.trans (if_neg hk))
      clear HR3
      go_wp2_with fail
      go_loopg [8] ex.length (fun g a wx => ∃ x : Bs, a = .string (st x) ∧ x.length = g ∧ x.length ≤ ex.length ∧ Hq (stripZ x = stripZ ex) ∧ Hq (x.all isDig = true) ∧ wx = W)
      case atStart => exact ⟨ex, rfl, rfl, by omega, hq rfl, hq (HDG.o (by trivial)), rfl⟩
      case round =>
        obtain ⟨x, rfl, hx, hxl, hsz, hxd, rfl⟩ := hrel
        have hx1 : x.length ≤ gk := by omega
        have hx2 : gk ≤ x.length := by omega
        clear hx
        go_upto_region 6 with fail
        go_cut [39] from 32 to 41 (fun c wx => c = .bool (zeroAhead x) ∧ wx = wr)
        case first =>
          clear HR4
          cases x with
          | nil =>
            go_wp2_with fail
            go_meet
            exact ⟨rfl, rfl⟩
          | cons c x =>
            cases x with
            | nil =>
              go_wp2_with fail
              go_meet
              exact ⟨rfl, rfl⟩
            | cons d x =>
              have hy : (((st (c :: d :: x))[0]'(by rw [st_size]; simp)).toNat : Int) = (c.toNat : Int) := rfl
              simp only [List.length_cons] at hx1 hx2 hxl
              go_wp2_with fail
              go_meet
              exact ⟨rfl, rfl⟩
        case rest =>
          obtain ⟨rfl, rfl⟩ := hcut
          have hY := @zeroAhead_yes x
          have hN := @zeroAhead_no x
          generalize zeroAhead x = B at *
          have HY := hq hY
          have HN := hq hN
          clear hY hN
          cases B with
          | true =>
            obtain ⟨e1, e2⟩ := HY.o rfl
            have HE := hq (e1.symm.trans hsz.o)
            have HT : Hq (x.tail.all isDig = true) := hq (by
              have := hxd.o
              rw [List.all_eq_true] at this ⊢
              exact fun y hy => this y (List.mem_of_mem_tail hy))
            have HC : Hq (∀ y : ByteArray, y = (st x).extract 1 x.length → y = st x.tail) := hq (fun y hy => by rw [hy, cut_right, List.drop_one])
            clear e1 HY HN hsz hxd
            go_wp2_with fail
            go_roundg (gk - 1)
            case rel => exact ⟨x.tail, congrArg Value.string (HC.o _ rfl), by omega, by omega, HE, HT, rfl⟩
            case measure => omega
          | false =>
            have HZ := hq ((HN.o rfl).symm.trans hsz.o)
            clear HY HN hsz
            clear HDG
            rw [← HZ.o] at HR4
            clear HZ hxl hx1 hx2
            by_cases h9 : 9 < x.length
            · have HN := hq (HR4.o.trans (if_pos h9))
              clear HR4
              go_wp2_with fail
              refine bodyPost_ret (v := .tuple #[Dec.zero.val, .int .i64 4]) ?_ rfl ?_
              · obtain ⟨z0, z1, z2⟩ := three_cells (by simpa using (((hW.put 0 (.bool false)).put 1 (.string ⟨#[]⟩)).put 2 (.int .i64 0)))
                simp [results, Tryd.results43, go_sem, z0, z1, z2, Dec.zero, Dec.val]
              · exact ⟨by rw [HN.o], ((hb.setCell (p := ⟨w.heap.size, 0, none⟩) (by simp) _).setCell (p := ⟨w.heap.size, 1, none⟩) (by simp) _).setCell (p := ⟨w.heap.size, 2, none⟩) (by simp) _⟩
            · have HR5 := hq (HR4.o.trans (if_neg h9))
              clear HR4
              have hbd := numOf_le x hxd.o (by omega)
              go_wp2_with fail
              go_loop [10, 11] (fun s i => ∃ k : Nat, k ≤ x.length ∧ i = .int .i64 k ∧ s = .int .i64 (numOf (x.take k))) (fun _ i => x.length - (intOf i).toNat)
              case atStart => exact ⟨0, by omega, rfl, rfl⟩
              case round =>
                obtain ⟨k, hk, rfl, rfl⟩ := hrel
                have hbk := numOf_le (x.take k) (by have := hxd.o; rw [List.all_eq_true] at this ⊢; exact fun y hy => this y (List.mem_of_mem_take hy)) (by rw [List.length_take]; omega)
                obtain ⟨hb1, hb2⟩ := hbk
                by_cases hlt : k < x.length
                · have hz : k < (st x).size := by rw [st_size]; exact hlt
                  have hdk : 48 ≤ ((st x)[k]'hz).toNat ∧ ((st x)[k]'hz).toNat ≤ 57 := by
                    have := List.all_eq_true.1 hxd.o x[k] (List.getElem_mem hlt)
                    unfold isDig at this
                    simp only [Bool.and_eq_true, decide_eq_true_eq] at this
                    exact this
                  have hsn : Hq (numOf (x.take (k + 1)) = numOf (x.take k) * 10 + ((((st x)[k]'hz).toNat : Int) - 48)) := hq (by
                    rw [List.take_succ_eq_append_getElem hlt, numOf_snoc]; rfl)
                  have hwr := dig_sub hdk.1 hdk.2
                  generalize hX : ((st x)[k]'hz).toNat = c at *
                  have hy : (((st x)[k]'hz).toNat : Int) = (c : Int) := by rw [hX]
                  clear hX
                  generalize numOf (x.take k) = s at *
                  generalize hS : numOf (x.take (k + 1)) = s' at *
                  obtain ⟨hd1, hd2⟩ := hdk
                  have HS := hq hS
                  clear hS
                  go_wp2_with fail
                  go_round
                  case rel => exact ⟨k + 1, by omega, by go_num, by rw [HS.o, hsn.o]; exact int_eq (by omega)⟩
                  case measure => simp [intOf]; omega
                · obtain rfl : k = x.length := by omega
                  rw [List.take_length]
                  clear hxd hb1 hb2
                  obtain ⟨hb1, hb2⟩ := hbd
                  have HE1 : Hq (expOf down x = if down = true then - numOf x else numOf x) := hq rfl
                  have HR7 : Hq (∀ D, stripL (whole ++ frac) = D → R = if D = [] then (.zero, 0) else if expOf down x - frac.length + D.length - (stripR D).length < -1000000 ∨ 1000000 < expOf down x - frac.length + D.length - (stripR D).length then (.zero, 4) else (⟨neg, stripR D, expOf down x - frac.length + D.length - (stripR D).length⟩, 0)) := hq (fun D hD => by
                    rw [HR5.o, hD]; rfl)
                  clear HR5
                  have he1 : -999999999 ≤ expOf down x ∧ expOf down x ≤ 999999999 := by unfold expOf; split <;> omega
                  generalize numOf x = X at *
                  generalize hE : expOf down x = E0 at *
                  clear hE
                  go_upto_if 60 with fail
                  go_cut [10] (fun s wx => s = .int .i64 E0 ∧ wx = wc)
                  case first =>
                    cases down with
                    | true =>
                      go_wp2_with fail
                      go_meet
                      exact ⟨by rw [HE1.o]; rfl, rfl⟩
                    | false =>
                      go_wp2_with fail
                      go_meet
                      exact ⟨by rw [HE1.o]; rfl, rfl⟩
                  case rest =>
                    obtain ⟨rfl, rfl⟩ := hcut
                    clear HE1 hb1 hb2 hlt hk h9
                    obtain ⟨he1, he2⟩ := he1
                    go_wp2_with fail
                    rw [cat_st]
                    have hal : (whole ++ frac).length ≤ 1000 := by rw [List.length_append]; omega
                    have HD0 := hq (stripL_head (whole ++ frac))
                    have hfl : frac.length ≤ 1000 := by omega
                    generalize whole ++ frac = ALL at *
                    go_loopg [12] ALL.length (fun g a wx => ∃ y : Bs, a = .string (st y) ∧ y.length ≤ g ∧ g ≤ y.length ∧ y.length ≤ 1000 ∧ Hq (stripL y = stripL ALL) ∧ wx = wc)
                    case atStart => exact ⟨ALL, rfl, by omega, by omega, hal, hq rfl, rfl⟩
                    case round =>
                      obtain ⟨y, rfl, hy1, hy2, hyl, hys, rfl⟩ := hrel
                      go_upto_region 19 with fail
                      go_cut [77] from 70 to 79 (fun c wx => c = .bool (noughtAhead y) ∧ wx = wr)
                      case first =>
                        clear HR7 HD0 hys
                        cases y with
                        | nil =>
                          go_wp2_with fail
                          go_meet
                          exact ⟨rfl, rfl⟩
                        | cons c y =>
                          have hy : (((st (c :: y))[0]'(by rw [st_size]; simp)).toNat : Int) = (c.toNat : Int) := rfl
                          simp only [List.length_cons] at hy1 hy2 hyl
                          go_wp2_with fail
                          go_meet
                          exact ⟨rfl, rfl⟩
                      case rest =>
                        obtain ⟨rfl, rfl⟩ := hcut
                        have hY := @noughtAhead_yes y
                        have hN := @noughtAhead_no y
                        generalize noughtAhead y = B at *
                        have HY := hq hY
                        have HN := hq hN
                        clear hY hN
                        cases B with
                        | true =>
                          obtain ⟨e1, e2⟩ := HY.o rfl
                          have HE := hq (e1.symm.trans hys.o)
                          have HC : Hq (∀ z : ByteArray, z = (st y).extract 1 y.length → z = st y.tail) := hq (fun z hz => by rw [hz, cut_right, List.drop_one])
                          clear e1 HY HN hys HR7 HD0
                          go_wp2_with fail
                          go_roundg (gk - 1)
                          case rel => exact ⟨y.tail, congrArg Value.string (HC.o _ rfl), by omega, by omega, by omega, HE, rfl⟩
                          case measure => omega
                        | false =>
                          have hys2 := (HN.o rfl).symm.trans hys.o
                          have HD := hq (HR7.o y hys2.symm)
                          have HY0 : Hq (y.head? ≠ some 48) := hq (by rw [hys2]; exact HD0.o)
                          clear HY HN hys hys2 HR7 HD0 hy1 hy2 hal
                          by_cases hy0 : y = []
                          · have HN := hq (HD.o.trans (if_pos hy0))
                            subst hy0
                            clear HD HY0
                            go_wp2_with fail
                            refine bodyPost_ret (v := .tuple #[Dec.zero.val, .int .i64 0]) ?_ rfl ?_
                            · obtain ⟨z0, z1, z2⟩ := three_cells (by simpa using (((hW.put 0 (.bool false)).put 1 (.string ⟨#[]⟩)).put 2 (.int .i64 0)))
                              simp [results, Tryd.results43, go_sem, z0, z1, z2, Dec.zero, Dec.val]
                            · exact ⟨by rw [HN.o], ((hb.setCell (p := ⟨w.heap.size, 0, none⟩) (by simp) _).setCell (p := ⟨w.heap.size, 1, none⟩) (by simp) _).setCell (p := ⟨w.heap.size, 2, none⟩) (by simp) _⟩
                          · have HD2 := hq (HD.o.trans (if_neg hy0))
                            clear HD
                            have hem : y.isEmpty = false := by cases y with | nil => exact absurd rfl hy0 | cons _ _ => rfl
                            have hyp : 0 < y.length := List.length_pos_iff.2 hy0
                            go_wp2_with fail
                            go_loopg [10, 12] y.length (fun g v a wx => ∃ (z : Bs) (e : Int), a = .string (st z) ∧ v = .int .i64 e ∧ z.length ≤ g ∧ 0 < z.length ∧ z.length ≤ 1000 ∧ Hq (e + z.length = E0 - frac.length + y.length) ∧ -1000001000 ≤ e ∧ e + z.length ≤ 1000001000 ∧ Hq (stripR z = stripR y) ∧ Hq (z.head? ≠ some 48) ∧ wx = wc)
                            case atStart => exact ⟨y, E0 - frac.length, rfl, rfl, by omega, hyp, hyl, hq rfl, by omega, by omega, hq rfl, HY0, rfl⟩
                            case round =>
                              obtain ⟨z, e, rfl, rfl, hz1, hz2, hz3, hze, he3, he4, hzs, hzh, rfl⟩ := hrel
                              have hzi : z.length - 1 < (st z).size := by rw [st_size]; omega
                              obtain ⟨t, c, htc⟩ := snoc_of (List.length_pos_iff.1 hz2)
                              have htl : z.length = t.length + 1 := by rw [htc]; simp
                              have hc : ((st z)[z.length - 1]'hzi) = c := by
                                rw [get_st]
                                simp [htc]
                              have hcut2 : Hq (∀ u : ByteArray, u = (st z).extract 0 (z.length - 1) → u = st t) := hq (fun u hu => by
                                rw [hu, cut_left]; congr 1; rw [htl, htc]; simp)
                              have HS : Hq (stripR z = if c = 48 then stripR t else z) := hq (by rw [htc]; exact stripR_step t c)
                              have HC : Hq (c = 48 ↔ ((c.toNat : Int) == 48) = true) := hq (by
                                rw [beq_iff_eq, ← UInt8.toNat_inj]
                                show c.toNat = 48 ↔ _
                                omega)
                              have HT0 : Hq (c = 48 → t ≠ []) := hq (fun h ht => hzh.o (by rw [htc, ht, h]; rfl))
                              have HTH : Hq (t ≠ [] → t.head? ≠ some 48) := hq (fun h => by
                                have := hzh.o
                                rw [htc] at this
                                cases t with
                                | nil => exact absurd rfl h
                                | cons a b => exact this)
                              have hy : ((((st z)[z.length - 1]'hzi).toNat : Nat) : Int) = (c.toNat : Int) := by rw [hc]
                              have htl1 : t.length + 1 ≤ z.length := by omega
                              have htl2 : z.length ≤ t.length + 1 := by omega
                              clear htc hc htl HY0
                              cases hB : ((c.toNat : Int) == 48) with
                              | true =>
                                have h48 := HC.o.2 hB
                                have hS2 := hq ((HS.o.trans (if_pos h48)).symm.trans hzs.o)
                                have ht0 := HT0.o h48
                                have hth := hq (HTH.o ht0)
                                have htp : 0 < t.length := List.length_pos_iff.2 ht0
                                clear HS HC HT0 HTH h48 ht0 HD2
                                go_wp2_with fail
                                go_roundg (gk - 1)
                                case rel => exact ⟨t, e + 1, congrArg Value.string (hcut2.o _ rfl), rfl, by omega, htp, by omega, hq (by have := hze.o; omega), by omega, by omega, hS2, hth, rfl⟩
                                case measure => omega
                              | false =>
                                have hS2 := (HS.o.trans (if_neg (fun h => by rw [HC.o.1 h] at hB; cases hB))).symm.trans hzs.o
                                have HE : Hq (R = if e < -1000000 ∨ 1000000 < e then (.zero, 4) else (⟨neg, z, e⟩, 0)) := hq (by
                                  have h1 := hze.o
                                  rw [HD2.o, ← hS2, show E0 - (frac.length : Int) + (y.length : Int) - (z.length : Int) = e by omega])
                                clear HS HC HT0 HTH hS2 HD2 hcut2 hze hzs hzh
                                by_cases g1 : e < -1000000
                                · have HN := hq (HE.o.trans (if_pos (.inl g1)))
                                  clear HE
                                  go_wp2_with fail
                                  refine bodyPost_ret (v := .tuple #[Dec.zero.val, .int .i64 4]) ?_ rfl ?_
                                  · obtain ⟨z0, z1, z2⟩ := three_cells (by simpa using (((hW.put 0 (.bool false)).put 1 (.string ⟨#[]⟩)).put 2 (.int .i64 0)))
                                    simp [results, Tryd.results43, go_sem, z0, z1, z2, Dec.zero, Dec.val]
                                  · exact ⟨by rw [HN.o], ((hb.setCell (p := ⟨w.heap.size, 0, none⟩) (by simp) _).setCell (p := ⟨w.heap.size, 1, none⟩) (by simp) _).setCell (p := ⟨w.heap.size, 2, none⟩) (by simp) _⟩
                                · by_cases g2 : 1000000 < e
                                  · have HN := hq (HE.o.trans (if_pos (.inr g2)))
                                    clear HE
                                    go_wp2_with fail
                                    refine bodyPost_ret (v := .tuple #[Dec.zero.val, .int .i64 4]) ?_ rfl ?_
                                    · obtain ⟨z0, z1, z2⟩ := three_cells (by simpa using (((hW.put 0 (.bool false)).put 1 (.string ⟨#[]⟩)).put 2 (.int .i64 0)))
                                      simp [results, Tryd.results43, go_sem, z0, z1, z2, Dec.zero, Dec.val]
                                    · exact ⟨by rw [HN.o], ((hb.setCell (p := ⟨w.heap.size, 0, none⟩) (by simp) _).setCell (p := ⟨w.heap.size, 1, none⟩) (by simp) _).setCell (p := ⟨w.heap.size, 2, none⟩) (by simp) _⟩
                                  · have HN := hq (HE.o.trans (if_neg (by omega)))
                                    clear HE
                                    go_wp2_with fail
                                    refine bodyPost_ret (v := .tuple #[(Dec.mk neg z e).val, .int .i64 0]) ?_ rfl ?_
                                    · obtain ⟨z0, z1, z2⟩ := three_cells (by simpa using (((hW.put 0 (.bool neg)).put 1 (.string (st z))).put 2 (.int .i64 e)))
                                      simp [results, Tryd.results43, go_sem, z0, z1, z2, Dec.val]
                                    · exact ⟨by rw [HN.o], ((hb.setCell (p := ⟨w.heap.size, 0, none⟩) (by simp) _).setCell (p := ⟨w.heap.size, 1, none⟩) (by simp) _).setCell (p := ⟨w.heap.size, 2, none⟩) (by simp) _⟩
end Go.Proofs.YtinenhnfhdeidaaDoor
