/-
  WALKS: the document's parts of a literal.
-/
import Derived.Test.YtinenhnfhdeidaaDoorNumRP2
import Derived.Test.YtinenhnfhdeidaaDoorNumRefD
import Derived.Deep.LoopGhost
import Derived.Deep.CutRange
namespace Go.Proofs.YtinenhnfhdeidaaDoor
open Go.RowKit

theorem tw_is {p : UInt8 → Bool} (l : Bs) (k : Nat) (h : (l.take k).all p = true) (hk : ∀ hk : k < l.length, p l[k] = false) (hl : k ≤ l.length) : l.takeWhile p = l.take k ∧ l.dropWhile p = l.drop k := by
  have e : l = l.take k ++ l.drop k := (List.take_append_drop k l).symm
  have hd : (l.drop k).takeWhile p = [] ∧ (l.drop k).dropWhile p = l.drop k := by
    by_cases hlt : k < l.length
    · rw [List.drop_eq_getElem_cons hlt, List.takeWhile_cons, List.dropWhile_cons, hk hlt]
      exact ⟨rfl, rfl⟩
    · rw [List.drop_eq_nil_of_le (by omega)]; exact ⟨rfl, rfl⟩
  obtain ⟨a, b⟩ := tw_append (l.drop k) h
  constructor
  · conv => lhs; rw [e]
    rw [a, hd.1, List.append_nil]
  · conv => lhs; rw [e]
    rw [b, hd.2]
theorem get_st (l : Bs) (k : Nat) (h : k < (st l).size) : (st l)[k]'h = l[k]'(by rw [st_size] at h; exact h) := rfl
theorem notE_get (l : Bs) (k : Nat) (h : k < (st l).size) (h' : k < l.length) : notE l[k] = (!(((((st l)[k]'h).toNat : Int) == 101) || ((((st l)[k]'h).toNat : Int) == 69))) := by
  rw [get_st]
  unfold notE
  congr 2
  · rw [Bool.eq_iff_iff, beq_iff_eq, beq_iff_eq, ← UInt8.toNat_inj]
    show _ = 101 ↔ _
    omega
  · rw [Bool.eq_iff_iff, beq_iff_eq, beq_iff_eq, ← UInt8.toNat_inj]
    show _ = 69 ↔ _
    omega
theorem notPt_get (l : Bs) (k : Nat) (h : k < (st l).size) (h' : k < l.length) : notPt l[k] = (!((((st l)[k]'h).toNat : Int) == 46)) := by
  rw [get_st]
  unfold notPt
  congr 1
  rw [Bool.eq_iff_iff, beq_iff_eq, beq_iff_eq, ← UInt8.toNat_inj]
  show _ = 46 ↔ _
  omega
theorem take_all_succ {p : UInt8 → Bool} {l : Bs} {k : Nat} (h : (l.take k).all p = true) (hk : k < l.length) (hp : p l[k] = true) : (l.take (k + 1)).all p = true := by
  rw [List.take_succ_eq_append_getElem hk, List.all_append, h, List.all_cons, hp]; rfl

def RPartsPost (r : RParts) (w : World) (e : Ending) (w' : World) : Prop := e = .returned (.tuple #[.bool r.neg, .string (st r.whole), .string (st r.frac), .bool r.down, .string (st r.exp), .bool r.ok]) ∧ w' = w
theorem cons_first (c : UInt8) (r : Bs) (n : Nat) (hn : n < 256) : (((c :: r).head? == some (UInt8.ofNat n)) : Bool) = ((c.toNat : Int) == n) := by
  rw [Bool.eq_iff_iff, beq_iff_eq, beq_iff_eq, List.head?_cons, Option.some.injEq, ← UInt8.toNat_inj, UInt8.toNat_ofNat_of_lt' (by simpa using hn)]
  omega

theorem rdigs_any (l : Bs) (w : World) (hl : l.length ≤ 1099511627776) :
    Calls Tryd.prog 72 #[.string (st l)] w fun e w' => e = .returned (.bool (digs l)) ∧ w = w' :=
  (rdigits_any l w hl).mono fun _ _ ⟨h1, h2⟩ => ⟨h1, h2.symm⟩

set_option maxHeartbeats 4000000 in
set_option maxRecDepth 1000000 in
theorem rparts_any (l : Bs) (w : World) (hl : l.length ≤ 1099511627776) :
    Calls Tryd.prog 57 #[.string (st l)] w (RPartsPost (rpartsM l) w) := by
  generalize hR : rpartsM l = R
  have HR := hq hR
  clear hR
  go_enter Tryd.func57, Tryd.ntmps57
  go_upto_region 1 with fail
  go_cut [8] (fun n wx => n = .bool (l.head? == some 45) ∧ wx = w)
  case first =>
    cases l with
    | nil =>
      clear HR
      go_wp2_with fail
      go_meet
      exact ⟨rfl, rfl⟩
    | cons c r =>
      have hy : (((st (c :: r))[0]'(by rw [st_size]; simp)).toNat : Int) = (c.toNat : Int) := rfl
      have hf' : ((c :: r).head? == some (45 : UInt8)) = ((c.toNat : Int) == 45) := cons_first c r 45 (by omega)
      simp only [List.length_cons] at hl
      have HF := hq hf'
      clear HR hf'
      go_wp2_with fail
      go_meet
      exact ⟨congrArg Value.bool HF.o.symm, rfl⟩
  case rest =>
    obtain ⟨rfl, rfl⟩ := hcut
    have hh : ∃ (m : Bs) (neg : Bool), (l.head? == some 45) = neg ∧ m = (if neg = true then l.tail else l) ∧ R = rpartsW neg m ∧ m.length ≤ l.length ∧ (neg = true → 1 ≤ l.length) := by
      refine ⟨_, _, rfl, rfl, ?_, ?_, ?_⟩
      · rw [← HR.o]; unfold rpartsM; split <;> rename_i h <;> simp [h]
      · split
        · rw [List.length_tail]; omega
        · omega
      · cases l with
        | nil => intro h; cases h
        | cons c r => intro _; simp
    obtain ⟨m, neg, h1, h2, HN, hm, hn⟩ := hh
    rw [h1]
    have HN := hq HN
    have H2 := hq h2
    have HM : Hq (∀ x : ByteArray, (neg = true → x = (st l).extract 1 l.length) → (neg = false → x = st l) → x = st m) := hq (fun x hx hy => by
      rw [H2.o]
      cases neg with
      | true => rw [hx rfl, cut_right, if_pos rfl, List.drop_one]
      | false => rw [hy rfl, if_neg (by simp)])
    clear HR h1 h2 H2
    go_upto_if 23 with fail
    go_cut [0] (fun s wx => s = .string (st m) ∧ wx = wc)
    case first =>
      cases neg with
      | true =>
        have hn := hn rfl
        go_wp2_with fail
        go_meet
        exact ⟨congrArg Value.string (HM.o _ (fun _ => rfl) (fun h => by cases h)), rfl⟩
      | false =>
        go_wp2_with fail
        go_meet
        exact ⟨congrArg Value.string (HM.o _ (fun h => by cases h) (fun _ => rfl)), rfl⟩
    case rest =>
      obtain ⟨rfl, rfl⟩ := hcut
      clear HM hn
      go_wp2_with fail
      go_loopg [9] m.length (fun g a wx => ∃ k : Nat, a = .int .i64 k ∧ k + g = m.length ∧ Hq ((m.take k).all notE = true) ∧ wx = wc)
      case atStart => exact ⟨0, rfl, by omega, hq rfl, rfl⟩
      case round =>
        obtain ⟨k, rfl, hk, hd, rfl⟩ := hrel
        go_upto_region 5 with fail
        go_cut [41] from 26 to 43 (fun c wx => c = .bool (decide (k < m.length) && notE (m.getD k 101)) ∧ wx = wr)
        case first =>
          by_cases hlt : k < m.length
          · have hz : k < (st m).size := by rw [st_size]; exact hlt
            have hE : Hq (notE (m.getD k 101) = (!(((((st m)[k]'hz).toNat : Int) == 101) || ((((st m)[k]'hz).toNat : Int) == 69)))) := hq (by
              rw [← notE_get m k hz hlt]
              congr 1
              simp [List.getD, hlt])
            have hD : Hq (decide (k < m.length) = true) := hq (decide_eq_true hlt)
            generalize hx : ((st m)[k]'hz).toNat = x at hE
            have hy : (((st m)[k]'hz).toNat : Int) = (x : Int) := by rw [hx]
            clear hx HN
            by_cases g1 : x = 101
            · have e1 : ((x : Int) != 101) = false := by rw [g1]; rfl
              have HF := hq (show (decide (k < m.length) && notE (m.getD k 101)) = false by rw [hE.o, g1]; simp)
              clear hE g1
              go_wp2_with fail
              go_meet
              exact ⟨congrArg Value.bool HF.o.symm, rfl⟩
            · have e1 : ((x : Int) != 101) = true := bne_iff_ne.2 (by omega)
              have HF := hq (show (decide (k < m.length) && notE (m.getD k 101)) = ((x : Int) != 69) by
                rw [hE.o, hD.o, show ((x : Int) == 101) = false from beq_eq_false_iff_ne.2 (by omega), Bool.true_and, Bool.false_or]; rfl)
              clear hE g1
              go_wp2_with fail
              go_meet
              exact ⟨congrArg Value.bool HF.o.symm, rfl⟩
          · have hD : Hq (decide (k < m.length) = false) := hq (decide_eq_false hlt)
            go_wp2_with fail
            go_meet
            exact ⟨by rw [hD.o]; rfl, rfl⟩
        case rest =>
          obtain ⟨rfl, rfl⟩ := hcut
          have hnext : (decide (k < m.length) && notE (m.getD k 101)) = true → k < m.length ∧ (m.take (k + 1)).all notE = true := fun h => by
            rw [Bool.and_eq_true, decide_eq_true_iff] at h
            refine ⟨h.1, take_all_succ hd.o h.1 ?_⟩
            have := h.2
            simpa [List.getD, h.1] using this
          have hlast : (decide (k < m.length) && notE (m.getD k 101)) = false → m.takeWhile notE = m.take k ∧ m.dropWhile notE = m.drop k := fun h => by
            refine tw_is m k hd.o (fun hk => ?_) (by omega)
            rw [decide_eq_true hk, Bool.true_and] at h
            simpa [List.getD, hk] using h
          generalize (decide (k < m.length) && notE (m.getD k 101)) = B at *
          have HX := hq hnext
          have HL := hq hlast
          clear hnext hlast hd
          cases B with
          | true =>
            have hlt := (HX.o rfl).1
            have hd := hq (HX.o rfl).2
            clear HX HL
            go_wp2_with fail
            go_roundg (m.length - (k + 1))
            case rel => exact ⟨k + 1, rfl, by omega, hd, rfl⟩
            case measure => omega
          | false =>
            have HL := hq (HL.o rfl)
            clear HX
            have hkl : k ≤ m.length := by omega
            have HR : Hq (R = ⟨neg, (m.take k).takeWhile notPt, rfrac ((m.take k).dropWhile notPt), (rexp (m.drop k)).1, (rexp (m.drop k)).2, digs ((m.take k).takeWhile notPt) && digs (rrest ((m.take k).dropWhile notPt)) && digs (rexp (m.drop k)).2 && wholeOk ((m.take k).takeWhile notPt)⟩) := hq (by
              rw [HN.o]; unfold rpartsW; rw [HL.o.1, HL.o.2])
            clear HN HL hk
            have hxt : (rexp (m.drop k)).2.length ≤ 1099511627776 := by
              have hdl : (m.drop k).length ≤ 1099511627776 := by rw [List.length_drop]; omega
              cases hdk : m.drop k with
              | nil => simp [rexp]
              | cons a b =>
                rw [hdk, List.length_cons] at hdl
                have h1 : b.tail.length ≤ b.length := by rw [List.length_tail]; omega
                unfold rexp
                simp only
                split
                · simp only; omega
                · simp only; split <;> omega
            generalize hX : rexp (m.drop k) = X at HR hxt
            have HRX := hq hX
            clear hX
            go_upto_if 47 with fail
            go_cut [10, 11] (fun s d wx => s = .string (st X.2) ∧ d = .bool X.1 ∧ wx = wc)
            case first =>
              by_cases hlt : k < m.length
              · have hdr : m.drop k = m[k] :: m.drop (k + 1) := List.drop_eq_getElem_cons hlt
                have HD := hq hdr
                have HE : Hq (∀ x : ByteArray, x = (st m).extract (k + 1) m.length → x = st (m.drop (k + 1))) := hq (fun x hx => by rw [hx, cut_right])
                clear hdr HR
                go_upto_region 10 with fail
                go_cut [10] (fun s wx => s = .string (st (m.drop (k + 1))) ∧ wx = wc)
                case first =>
                  go_wp2_with fail
                  go_meet
                  exact ⟨congrArg Value.string (HE.o _ rfl), rfl⟩
                case rest =>
                  obtain ⟨rfl, rfl⟩ := hcut
                  rw [HD.o] at HRX
                  have hrl : (m.drop (k + 1)).length ≤ m.length := by rw [List.length_drop]; omega
                  clear HD HE
                  generalize m.drop (k + 1) = r at *
                  generalize m[k] = c0 at *
                  cases r with
                  | nil =>
                    go_wp2_with fail
                    go_meet
                    exact ⟨by rw [← HRX.o]; rfl, by rw [← HRX.o]; rfl, rfl⟩
                  | cons c r =>
                    have hy : (((st (c :: r))[0]'(by rw [st_size]; simp)).toNat : Int) = (c.toNat : Int) := rfl
                    have hf1 : ((c :: r).head? == some (45 : UInt8)) = ((c.toNat : Int) == 45) := cons_first c r 45 (by omega)
                    have hf2 : ((c :: r).head? == some (43 : UInt8)) = ((c.toNat : Int) == 43) := cons_first c r 43 (by omega)
                    have HE : Hq (∀ x : ByteArray, x = (st (c :: r)).extract 1 (c :: r).length → x = st r) := hq (fun x hx => by rw [hx, cut_right]; rfl)
                    have HX : Hq (X = if ((c.toNat : Int) == 45) = true then (true, r) else (false, if ((c.toNat : Int) == 43) = true then r else c :: r)) := hq (by
                      rw [← HRX.o]; unfold rexp; simp only [hf1, hf2]; rfl)
                    simp only [List.length_cons] at hrl
                    clear hf1 hf2 HRX
                    cases hb : ((c.toNat : Int) == 45) with
                    | true =>
                      have HX2 : Hq (X = (true, r)) := hq (by rw [HX.o, hb]; rfl)
                      clear HX
                      go_wp2_with fail
                      go_meet
                      exact ⟨by rw [HX2.o]; exact congrArg Value.string (HE.o _ rfl), by rw [HX2.o], rfl⟩
                    | false =>
                      cases hb2 : ((c.toNat : Int) == 43) with
                      | true =>
                        have HX2 : Hq (X = (false, r)) := hq (by rw [HX.o, hb, hb2]; rfl)
                        clear HX
                        go_wp2_with fail
                        go_meet
                        exact ⟨by rw [HX2.o]; exact congrArg Value.string (HE.o _ rfl), by rw [HX2.o], rfl⟩
                      | false =>
                        have HX2 : Hq (X = (false, c :: r)) := hq (by rw [HX.o, hb, hb2]; rfl)
                        clear HX
                        go_wp2_with fail
                        go_meet
                        exact ⟨by rw [HX2.o], by rw [HX2.o], rfl⟩
              · have HD : Hq (m.drop k = []) := hq (List.drop_eq_nil_of_le (by omega))
                go_wp2_with fail
                go_meet
                exact ⟨by rw [← HRX.o, HD.o]; rfl, by rw [← HRX.o, HD.o]; rfl, rfl⟩
            case rest =>
              obtain ⟨rfl, rfl, rfl⟩ := hcut
              clear HRX
              have hmt : (m.take k).length ≤ 1099511627776 := by rw [List.length_take]; omega
              obtain ⟨xd, xp⟩ := X
              simp only at HR hxt ⊢
              have HE : Hq (∀ x : ByteArray, x = (st m).extract 0 k → x = st (m.take k)) := hq (fun x hx => by rw [hx, cut_left])
              generalize m.take k = A at *
              go_upto_region 14 with fail
              go_cut [0] (fun s wx => s = .string (st A) ∧ wx = wc)
              case first =>
                go_wp2_with fail
                go_meet
                exact ⟨congrArg Value.string (HE.o _ rfl), rfl⟩
              case rest =>
                obtain ⟨rfl, rfl⟩ := hcut
                clear HE hkl hm HN HL
                go_wp2_with fail
                go_loopg [9] A.length (fun g a wx => ∃ k : Nat, a = .int .i64 k ∧ k + g = A.length ∧ Hq ((A.take k).all notPt = true) ∧ wx = wc)
                case atStart => exact ⟨0, rfl, by omega, hq rfl, rfl⟩
                case round =>
                  obtain ⟨k, rfl, hk, hd, rfl⟩ := hrel
                  go_upto_region 16 with fail
                  go_cut [85] from 76 to 87 (fun c wx => c = .bool (decide (k < A.length) && notPt (A.getD k 46)) ∧ wx = wr)
                  case first =>
                    by_cases hlt : k < A.length
                    · have hz : k < (st A).size := by rw [st_size]; exact hlt
                      have hE : Hq (notPt (A.getD k 46) = (!((((st A)[k]'hz).toNat : Int) == 46))) := hq (by
                        rw [← notPt_get A k hz hlt]
                        congr 1
                        simp [List.getD, hlt])
                      have hD : Hq (decide (k < A.length) = true) := hq (decide_eq_true hlt)
                      generalize hx : ((st A)[k]'hz).toNat = x at hE
                      have hy : (((st A)[k]'hz).toNat : Int) = (x : Int) := by rw [hx]
                      clear hx HR
                      have HF := hq (show (decide (k < A.length) && notPt (A.getD k 46)) = ((x : Int) != 46) by
                        rw [hE.o, hD.o, Bool.true_and]; rfl)
                      clear hE
                      go_wp2_with fail
                      go_meet
                      exact ⟨congrArg Value.bool HF.o.symm, rfl⟩
                    · have hD : Hq (decide (k < A.length) = false) := hq (decide_eq_false hlt)
                      go_wp2_with fail
                      go_meet
                      exact ⟨by rw [hD.o]; rfl, rfl⟩
                  case rest =>
                    obtain ⟨rfl, rfl⟩ := hcut
                    have hnext : (decide (k < A.length) && notPt (A.getD k 46)) = true → k < A.length ∧ (A.take (k + 1)).all notPt = true := fun h => by
                      rw [Bool.and_eq_true, decide_eq_true_iff] at h
                      refine ⟨h.1, take_all_succ hd.o h.1 ?_⟩
                      have := h.2
                      simpa [List.getD, h.1] using this
                    have hlast : (decide (k < A.length) && notPt (A.getD k 46)) = false → A.takeWhile notPt = A.take k ∧ A.dropWhile notPt = A.drop k := fun h => by
                      refine tw_is A k hd.o (fun hk => ?_) (by omega)
                      rw [decide_eq_true hk, Bool.true_and] at h
                      simpa [List.getD, hk] using h
                    generalize (decide (k < A.length) && notPt (A.getD k 46)) = B at *
                    have HX := hq hnext
                    have HL := hq hlast
                    clear hnext hlast hd
                    cases B with
                    | true =>
                      have hlt := (HX.o rfl).1
                      have hd := hq (HX.o rfl).2
                      clear HX HL
                      go_wp2_with fail
                      go_roundg (A.length - (k + 1))
                      case rel => exact ⟨k + 1, rfl, by omega, hd, rfl⟩
                      case measure => omega
                    | false =>
                      have HL := hq (HL.o rfl)
                      clear HX
                      have hkl : k ≤ A.length := by omega
                      have HR2 : Hq (R = ⟨neg, A.take k, rfrac (A.drop k), xd, xp, digs (A.take k) && digs (rrest (A.drop k)) && digs xp && wholeOk (A.take k)⟩) := hq (by
                        rw [HR.o, HL.o.1, HL.o.2])
                      clear HL hk HR
                      have HE : Hq (∀ x : ByteArray, x = (st A).extract 0 k → x = st (A.take k)) := hq (fun x hx => by rw [hx, cut_left])
                      have hWl : (A.take k).length ≤ 1099511627776 := by rw [List.length_take]; omega
                      go_upto_region 18 with fail
                      go_cut [12] (fun s wx => s = .string (st (A.take k)) ∧ wx = wc)
                      case first =>
                        clear HR2
                        go_wp2_with fail
                        go_meet
                        exact ⟨congrArg Value.string (HE.o _ rfl), rfl⟩
                      case rest =>
                        obtain ⟨rfl, rfl⟩ := hcut
                        clear HE
                        go_upto_if 94 with fail
                        go_cut [13] (fun s wx => s = .string (st (rrest (A.drop k))) ∧ wx = wc)
                        case first =>
                          clear HR2
                          by_cases hlt : k < A.length
                          · have HE : Hq (∀ x : ByteArray, x = (st A).extract (k + 1) A.length → x = st (rrest (A.drop k))) := hq (fun x hx => by rw [hx, cut_right, List.drop_eq_getElem_cons hlt]; rfl)
                            go_wp2_with fail
                            go_meet
                            exact ⟨congrArg Value.string (HE.o _ rfl), rfl⟩
                          · have HD : Hq (A.drop k = []) := hq (List.drop_eq_nil_of_le (by omega))
                            go_wp2_with fail
                            go_meet
                            exact ⟨by rw [HD.o]; rfl, rfl⟩
                        case rest =>
                          obtain ⟨rfl, rfl⟩ := hcut
                          have hrl : (rrest (A.drop k)).length ≤ 1099511627776 := by
                            cases hdk : A.drop k with
                            | nil => simp [rrest]
                            | cons a b =>
                              have := congrArg List.length hdk
                              rw [List.length_drop, List.length_cons] at this
                              show b.length ≤ _
                              omega
                          have hA : k < A.length → rfrac (A.drop k) = rrest (A.drop k) := fun h => by rw [List.drop_eq_getElem_cons h]; rfl
                          have hB : ¬ k < A.length → rfrac (A.drop k) = [] := fun h => by rw [List.drop_eq_nil_of_le (by omega)]; rfl
                          have HA : Hq (k < A.length → R = ⟨neg, A.take k, rrest (A.drop k), xd, xp, digs (A.take k) && digs (rrest (A.drop k)) && digs xp && wholeOk (A.take k)⟩) := hq (fun h => by rw [HR2.o, hA h])
                          have HB : Hq (¬ k < A.length → R = ⟨neg, A.take k, [], xd, xp, digs (A.take k) && digs (rrest (A.drop k)) && digs xp && wholeOk (A.take k)⟩) := hq (fun h => by rw [HR2.o, hB h])
                          clear hA hB HR2
                          generalize rrest (A.drop k) = Q at *
                          generalize hW : A.take k = W at *
                          clear hW
                          go_upto_region 22 with fail
                          go_cut [14] (fun c wx => c = .bool (digs W && digs Q && digs xp && wholeOk W) ∧ wx = wc)
                          case first =>
                            clear HA HB
                            go_wp2_with fail
                            refine (rdigs_any W _ hWl).mono ?_
                            cases h1 : digs W with
                            | false =>
                              rintro e w1 ⟨rfl, rfl⟩
                              go_wp2_with fail
                              go_meet
                              exact ⟨congrArg Value.bool (by simp [h1]), rfl⟩
                            | true =>
                              rintro e w1 ⟨rfl, rfl⟩
                              go_wp2_with fail
                              refine (rdigs_any Q _ hrl).mono ?_
                              cases h2 : digs Q with
                              | false =>
                                rintro e w1 ⟨rfl, rfl⟩
                                go_wp2_with fail
                                go_meet
                                exact ⟨congrArg Value.bool (by simp [h2]), rfl⟩
                              | true =>
                                rintro e w1 ⟨rfl, rfl⟩
                                go_wp2_with fail
                                refine (rdigs_any xp _ hxt).mono ?_
                                cases h3 : digs xp with
                                | false =>
                                  rintro e w1 ⟨rfl, rfl⟩
                                  go_wp2_with fail
                                  go_meet
                                  exact ⟨congrArg Value.bool (by simp [h3]), rfl⟩
                                | true =>
                                  rintro e w1 ⟨rfl, rfl⟩
                                  have hp : 0 < W.length := by
                                    have := of_decide_eq_true h1
                                    exact List.length_pos_iff.2 this.1
                                  have hz : 0 < (st W).size := by rw [st_size]; exact hp
                                  have HW : Hq ((digs W && digs Q && digs xp && wholeOk W) = (W == [48] || ((((st W)[0]'hz).toNat : Int) != 48))) := hq (by
                                    rw [h1, h2, h3, Bool.true_and, Bool.true_and, Bool.true_and, get_st]
                                    unfold wholeOk
                                    cases W with
                                    | nil => simp at hp
                                    | cons c t =>
                                      rw [Bool.eq_iff_iff, decide_eq_true_iff, Bool.or_eq_true, beq_iff_eq, bne_iff_ne, List.head?_cons]
                                      refine or_congr Iff.rfl ?_
                                      show (some c ≠ some 48) ↔ ((c.toNat : Int) ≠ 48)
                                      rw [Ne, Option.some.injEq, ← UInt8.toNat_inj]
                                      show ¬ c.toNat = 48 ↔ _
                                      omega)
                                  clear h1 h2 h3
                                  by_cases e48 : W = [48]
                                  · subst e48
                                    go_wp2_with fail
                                    go_meet
                                    exact ⟨congrArg Value.bool (HW.o.trans rfl).symm, rfl⟩
                                  · have e49 : (W == [48]) = false := beq_eq_false_iff_ne.2 e48
                                    have HW2 : Hq ((digs W && digs Q && digs xp && wholeOk W) = ((((st W)[0]'hz).toNat : Int) != 48)) := hq (by rw [HW.o, e49, Bool.false_or])
                                    clear HW
                                    have e50 : ¬ W = [48] := e48
                                    go_wp2_with fail
                                    go_meet
                                    exact ⟨congrArg Value.bool HW2.o.symm, rfl⟩
                          case rest =>
                            obtain ⟨rfl, rfl⟩ := hcut
                            generalize (digs W && digs Q && digs xp && wholeOk W) = OK at *
                            by_cases hlt : k < A.length
                            · have HN := hq (HA.o hlt)
                              clear HA HB
                              go_wp2_with fail
                              refine bodyPost_ret (v := .tuple #[.bool neg, .string (st W), .string (st Q), .bool xd, .string (st xp), .bool OK]) ?_ rfl ?_
                              · simp [results, Tryd.results57, go_sem]
                              · exact ⟨by rw [HN.o], rfl⟩
                            · have HN := hq (HB.o hlt)
                              clear HA HB
                              have hke : k = A.length := by omega
                              subst hke
                              go_wp2_with fail
                              refine bodyPost_ret (v := .tuple #[.bool neg, .string (st W), .string (st []), .bool xd, .string (st xp), .bool OK]) ?_ rfl ?_
                              · simp [results, Tryd.results57, go_sem]
                              · exact ⟨by rw [HN.o], rfl⟩
end Go.Proofs.YtinenhnfhdeidaaDoor
