/-
  WALKS: the document's parts of a literal.
  WALKS: the document's Parse.
  WALK: the document's Decimal.
  WALKS: the document's Text and Of.
  WALK: the small cases of layer 2.
  WALKS: the document's Compare of layer 2, and the law NumberCompares.
  WALKS: number.Int.
  WALKS: the document's Int.
-/
import Derived.Test.YtnlkokgekjlmmaaGreatDoorNumK
import Derived.Deep.LoopGhost
import Derived.Deep.CutRange
import Derived.IntWalk
import Derived.Lib.ItoaLen
import Derived.Deep.RegionHeld3
namespace Go.Proofs.YtnlkokgekjlmmaaGreatDoor
open Go.RowKit
theorem tw_is {p : UInt8 → Bool} (l : Bs) (k : Nat) (h : (l.take k).all p = true) (hk : ∀ hk : k < l.length, p l[k] = false) (hl : k ≤ l.length) : l.takeWhile p = l.take k ∧ l.dropWhile p = l.drop k := by
 have e : l = l.take k ++ l.drop k := (List.take_append_drop k l).symm
 have hd : (l.drop k).takeWhile p = [] ∧ (l.drop k).dropWhile p = l.drop k := by
  by_cases hlt : k < l.length
  · rw [List.drop_eq_getElem_cons hlt, List.takeWhile_cons, List.dropWhile_cons, hk hlt]
    exact ⟨rfl, rfl⟩
  · rw [List.drop_eq_nil_of_le (by omega)]; exact ⟨rfl, rfl⟩
 obtain ⟨a, b⟩ := tw_append (l.drop k) h
 constructor
 · conv => lhs; rw [e]
   rw [a, hd.1, List.append_nil]
 · conv => lhs; rw [e]
   rw [b, hd.2]
theorem get_st (l : Bs) (k : Nat) (h : k < (st l).size) : (st l)[k]'h = l[k]'(by rw [st_size] at h; exact h) := rfl
theorem notE_get (l : Bs) (k : Nat) (h : k < (st l).size) (h' : k < l.length) : notE l[k] = (!(((((st l)[k]'h).toNat : Int) == 101) || ((((st l)[k]'h).toNat : Int) == 69))) := by
 rw [get_st]
 unfold notE
 congr 2
 · rw [Bool.eq_iff_iff, beq_iff_eq, beq_iff_eq, ← UInt8.toNat_inj]
   show _ = 101 ↔ _
   omega
 · rw [Bool.eq_iff_iff, beq_iff_eq, beq_iff_eq, ← UInt8.toNat_inj]
   show _ = 69 ↔ _
   omega
theorem notPt_get (l : Bs) (k : Nat) (h : k < (st l).size) (h' : k < l.length) : notPt l[k] = (!((((st l)[k]'h).toNat : Int) == 46)) := by
 rw [get_st]
 unfold notPt
 congr 1
 rw [Bool.eq_iff_iff, beq_iff_eq, beq_iff_eq, ← UInt8.toNat_inj]
 show _ = 46 ↔ _
 omega
theorem take_all_succ {p : UInt8 → Bool} {l : Bs} {k : Nat} (h : (l.take k).all p = true) (hk : k < l.length) (hp : p l[k] = true) : (l.take (k + 1)).all p = true := by
 rw [List.take_succ_eq_append_getElem hk, List.all_append, h, List.all_cons, hp]; rfl
def RPartsPost (r : RParts) (w : World) (e : Ending) (w' : World) : Prop := e = .returned (.tuple #[.bool r.neg, .string (st r.whole), .string (st r.frac), .bool r.down, .string (st r.exp), .bool r.ok]) ∧ w' = w
theorem cons_first (c : UInt8) (r : Bs) (n : Nat) (hn : n < 256) : (((c :: r).head? == some (UInt8.ofNat n)) : Bool) = ((c.toNat : Int) == n) := by
 rw [Bool.eq_iff_iff, beq_iff_eq, beq_iff_eq, List.head?_cons, Option.some.injEq, ← UInt8.toNat_inj, UInt8.toNat_ofNat_of_lt' (by simpa using hn)]
 omega
theorem rdigs_any (l : Bs) (w : World) (hl : l.length ≤ 1099511627776) :
 Calls Tryz.prog 171 #[.string (st l)] w fun e w' => e = .returned (.bool (digs l)) ∧ w = w' :=
 (rdigits_any l w hl).mono fun _ _ ⟨h1, h2⟩ => ⟨h1, h2.symm⟩
set_option maxHeartbeats 4000000 in
set_option maxRecDepth 1000000 in
theorem rparts_any (l : Bs) (w : World) (hl : l.length ≤ 1099511627776) :
 Calls Tryz.prog 124 #[.string (st l)] w (RPartsPost (rpartsM l) w) := by
 generalize hR : rpartsM l = R
 have HR := hq hR
 clear hR
 go_enter Tryz.func124, Tryz.ntmps124
 go_upto_region 1 with fail
 go_cut [8] (fun n wx => n = .bool (l.head? == some 45) ∧ wx = w)
 case first =>
  cases l with
  | nil =>
    clear HR
    go_wp2_with fail
    go_meet
    exact ⟨rfl, rfl⟩
  | cons c r =>
    have hy : (((st (c :: r))[0]'(by rw [st_size]; simp)).toNat : Int) = (c.toNat : Int) := rfl
    have hf' : ((c :: r).head? == some (45 : UInt8)) = ((c.toNat : Int) == 45) := cons_first c r 45 (by omega)
    simp only [List.length_cons] at hl
    have HF := hq hf'
    clear HR hf'
    go_wp2_with fail
    go_meet
    exact ⟨congrArg Value.bool HF.o.symm, rfl⟩
 case rest =>
  obtain ⟨rfl, rfl⟩ := hcut
  have hh : ∃ (m : Bs) (neg : Bool), (l.head? == some 45) = neg ∧ m = (if neg = true then l.tail else l) ∧ R = rpartsW neg m ∧ m.length ≤ l.length ∧ (neg = true → 1 ≤ l.length) := by
   refine ⟨_, _, rfl, rfl, ?_, ?_, ?_⟩
   · rw [← HR.o]; unfold rpartsM; split <;> rename_i h <;> simp [h]
   · split
     · rw [List.length_tail]; omega
     · omega
   · cases l with
     | nil => intro h; cases h
     | cons c r => intro _; simp
  obtain ⟨m, neg, h1, h2, HN, hm, hn⟩ := hh
  rw [h1]
  have HN := hq HN
  have H2 := hq h2
  have HM : Hq (∀ x : ByteArray, (neg = true → x = (st l).extract 1 l.length) → (neg = false → x = st l) → x = st m) := hq (fun x hx hy => by
   rw [H2.o]
   cases neg with
   | true => rw [hx rfl, cut_right, if_pos rfl, List.drop_one]
   | false => rw [hy rfl, if_neg (by simp)])
  clear HR h1 h2 H2
  go_upto_if 23 with fail
  go_cut [0] (fun s wx => s = .string (st m) ∧ wx = wc)
  case first =>
   cases neg with
   | true =>
     have hn := hn rfl
     go_wp2_with fail
     go_meet
     exact ⟨congrArg Value.string (HM.o _ (fun _ => rfl) (fun h => by cases h)), rfl⟩
   | false =>
     go_wp2_with fail
     go_meet
     exact ⟨congrArg Value.string (HM.o _ (fun h => by cases h) (fun _ => rfl)), rfl⟩
  case rest =>
   obtain ⟨rfl, rfl⟩ := hcut
   clear HM hn
   go_wp2_with fail
   go_loopg [9] m.length (fun g a wx => ∃ k : Nat, a = .int .i64 k ∧ k + g = m.length ∧ Hq ((m.take k).all notE = true) ∧ wx = wc)
   case atStart => exact ⟨0, rfl, by omega, hq rfl, rfl⟩
   case round =>
    obtain ⟨k, rfl, hk, hd, rfl⟩ := hrel
    go_upto_region 5 with fail
    go_cut [41] from 26 to 43 (fun c wx => c = .bool (decide (k < m.length) && notE (m.getD k 101)) ∧ wx = wr)
    case first =>
     by_cases hlt : k < m.length
     · have hz : k < (st m).size := by rw [st_size]; exact hlt
       have hE : Hq (notE (m.getD k 101) = (!(((((st m)[k]'hz).toNat : Int) == 101) || ((((st m)[k]'hz).toNat : Int) == 69)))) := hq (by
        rw [← notE_get m k hz hlt]
        congr 1
        simp [List.getD, hlt])
       have hD : Hq (decide (k < m.length) = true) := hq (decide_eq_true hlt)
       generalize hx : ((st m)[k]'hz).toNat = x at hE
       have hy : (((st m)[k]'hz).toNat : Int) = (x : Int) := by rw [hx]
       clear hx HN
       by_cases g1 : x = 101
       · have e1 : ((x : Int) != 101) = false := by rw [g1]; rfl
         have HF := hq (show (decide (k < m.length) && notE (m.getD k 101)) = false by rw [hE.o, g1]; simp)
         clear hE g1
         go_wp2_with fail
         go_meet
         exact ⟨congrArg Value.bool HF.o.symm, rfl⟩
       · have e1 : ((x : Int) != 101) = true := bne_iff_ne.2 (by omega)
         have HF := hq (show (decide (k < m.length) && notE (m.getD k 101)) = ((x : Int) != 69) by
          rw [hE.o, hD.o, show ((x : Int) == 101) = false from beq_eq_false_iff_ne.2 (by omega), Bool.true_and, Bool.false_or]; rfl)
         clear hE g1
         go_wp2_with fail
         go_meet
         exact ⟨congrArg Value.bool HF.o.symm, rfl⟩
     · have hD : Hq (decide (k < m.length) = false) := hq (decide_eq_false hlt)
       go_wp2_with fail
       go_meet
       exact ⟨by rw [hD.o]; rfl, rfl⟩
    case rest =>
     obtain ⟨rfl, rfl⟩ := hcut
     have hnext : (decide (k < m.length) && notE (m.getD k 101)) = true → k < m.length ∧ (m.take (k + 1)).all notE = true := fun h => by
      rw [Bool.and_eq_true, decide_eq_true_iff] at h
      refine ⟨h.1, take_all_succ hd.o h.1 ?_⟩
      have := h.2
      simpa [List.getD, h.1] using this
     have hlast : (decide (k < m.length) && notE (m.getD k 101)) = false → m.takeWhile notE = m.take k ∧ m.dropWhile notE = m.drop k := fun h => by
      refine tw_is m k hd.o (fun hk => ?_) (by omega)
      rw [decide_eq_true hk, Bool.true_and] at h
      simpa [List.getD, hk] using h
     generalize (decide (k < m.length) && notE (m.getD k 101)) = B at *
     have HX := hq hnext
     have HL := hq hlast
     clear hnext hlast hd
     cases B with
     | true =>
       have hlt := (HX.o rfl).1
       have hd := hq (HX.o rfl).2
       clear HX HL
       go_wp2_with fail
       go_roundg (m.length - (k + 1))
       case rel => exact ⟨k + 1, rfl, by omega, hd, rfl⟩
       case measure => omega
     | false =>
       have HL := hq (HL.o rfl)
       clear HX
       have hkl : k ≤ m.length := by omega
       have HR : Hq (R = ⟨neg, (m.take k).takeWhile notPt, rfrac ((m.take k).dropWhile notPt), (rexp (m.drop k)).1, (rexp (m.drop k)).2, digs ((m.take k).takeWhile notPt) && digs (rrest ((m.take k).dropWhile notPt)) && digs (rexp (m.drop k)).2 && wholeOk ((m.take k).takeWhile notPt)⟩) := hq (by
        rw [HN.o]; unfold rpartsW; rw [HL.o.1, HL.o.2])
       clear HN HL hk
       have hxt : (rexp (m.drop k)).2.length ≤ 1099511627776 := by
        have hdl : (m.drop k).length ≤ 1099511627776 := by rw [List.length_drop]; omega
        cases hdk : m.drop k with
        | nil => simp [rexp]
        | cons a b =>
          rw [hdk, List.length_cons] at hdl
          have h1 : b.tail.length ≤ b.length := by rw [List.length_tail]; omega
          unfold rexp
          simp only
          split
          · simp only; omega
          · simp only; split <;> omega
       generalize hX : rexp (m.drop k) = X at HR hxt
       have HRX := hq hX
       clear hX
       go_upto_if 47 with fail
       go_cut [10, 11] (fun s d wx => s = .string (st X.2) ∧ d = .bool X.1 ∧ wx = wc)
       case first =>
        by_cases hlt : k < m.length
        · have hdr : m.drop k = m[k] :: m.drop (k + 1) := List.drop_eq_getElem_cons hlt
          have HD := hq hdr
          have HE : Hq (∀ x : ByteArray, x = (st m).extract (k + 1) m.length → x = st (m.drop (k + 1))) := hq (fun x hx => by rw [hx, cut_right])
          clear hdr HR
          go_upto_region 10 with fail
          go_cut [10] (fun s wx => s = .string (st (m.drop (k + 1))) ∧ wx = wc)
          case first =>
           go_wp2_with fail
           go_meet
           exact ⟨congrArg Value.string (HE.o _ rfl), rfl⟩
          case rest =>
           obtain ⟨rfl, rfl⟩ := hcut
           rw [HD.o] at HRX
           have hrl : (m.drop (k + 1)).length ≤ m.length := by rw [List.length_drop]; omega
           clear HD HE
           generalize m.drop (k + 1) = r at *
           generalize m[k] = c0 at *
           cases r with
           | nil =>
             go_wp2_with fail
             go_meet
             exact ⟨by rw [← HRX.o]; rfl, by rw [← HRX.o]; rfl, rfl⟩
           | cons c r =>
             have hy : (((st (c :: r))[0]'(by rw [st_size]; simp)).toNat : Int) = (c.toNat : Int) := rfl
             have hf1 : ((c :: r).head? == some (45 : UInt8)) = ((c.toNat : Int) == 45) := cons_first c r 45 (by omega)
             have hf2 : ((c :: r).head? == some (43 : UInt8)) = ((c.toNat : Int) == 43) := cons_first c r 43 (by omega)
             have HE : Hq (∀ x : ByteArray, x = (st (c :: r)).extract 1 (c :: r).length → x = st r) := hq (fun x hx => by rw [hx, cut_right]; rfl)
             have HX : Hq (X = if ((c.toNat : Int) == 45) = true then (true, r) else (false, if ((c.toNat : Int) == 43) = true then r else c :: r)) := hq (by
              rw [← HRX.o]; unfold rexp; simp only [hf1, hf2]; rfl)
             simp only [List.length_cons] at hrl
             clear hf1 hf2 HRX
             cases hb : ((c.toNat : Int) == 45) with
             | true =>
               have HX2 : Hq (X = (true, r)) := hq (by rw [HX.o, hb]; rfl)
               clear HX
               go_wp2_with fail
               go_meet
               exact ⟨by rw [HX2.o]; exact congrArg Value.string (HE.o _ rfl), by rw [HX2.o], rfl⟩
             | false =>
               cases hb2 : ((c.toNat : Int) == 43) with
               | true =>
                 have HX2 : Hq (X = (false, r)) := hq (by rw [HX.o, hb, hb2]; rfl)
                 clear HX
                 go_wp2_with fail
                 go_meet
                 exact ⟨by rw [HX2.o]; exact congrArg Value.string (HE.o _ rfl), by rw [HX2.o], rfl⟩
               | false =>
                 have HX2 : Hq (X = (false, c :: r)) := hq (by rw [HX.o, hb, hb2]; rfl)
                 clear HX
                 go_wp2_with fail
                 go_meet
                 exact ⟨by rw [HX2.o], by rw [HX2.o], rfl⟩
        · have HD : Hq (m.drop k = []) := hq (List.drop_eq_nil_of_le (by omega))
          go_wp2_with fail
          go_meet
          exact ⟨by rw [← HRX.o, HD.o]; rfl, by rw [← HRX.o, HD.o]; rfl, rfl⟩
       case rest =>
        obtain ⟨rfl, rfl, rfl⟩ := hcut
        clear HRX
        have hmt : (m.take k).length ≤ 1099511627776 := by rw [List.length_take]; omega
        obtain ⟨xd, xp⟩ := X
        simp only at HR hxt ⊢
        have HE : Hq (∀ x : ByteArray, x = (st m).extract 0 k → x = st (m.take k)) := hq (fun x hx => by rw [hx, cut_left])
        generalize m.take k = A at *
        go_upto_region 14 with fail
        go_cut [0] (fun s wx => s = .string (st A) ∧ wx = wc)
        case first =>
         go_wp2_with fail
         go_meet
         exact ⟨congrArg Value.string (HE.o _ rfl), rfl⟩
        case rest =>
         obtain ⟨rfl, rfl⟩ := hcut
         clear HE hkl hm HN HL
         go_wp2_with fail
         go_loopg [9] A.length (fun g a wx => ∃ k : Nat, a = .int .i64 k ∧ k + g = A.length ∧ Hq ((A.take k).all notPt = true) ∧ wx = wc)
         case atStart => exact ⟨0, rfl, by omega, hq rfl, rfl⟩
         case round =>
          obtain ⟨k, rfl, hk, hd, rfl⟩ := hrel
          go_upto_region 16 with fail
          go_cut [85] from 76 to 87 (fun c wx => c = .bool (decide (k < A.length) && notPt (A.getD k 46)) ∧ wx = wr)
          case first =>
           by_cases hlt : k < A.length
           · have hz : k < (st A).size := by rw [st_size]; exact hlt
             have hE : Hq (notPt (A.getD k 46) = (!((((st A)[k]'hz).toNat : Int) == 46))) := hq (by
              rw [← notPt_get A k hz hlt]
              congr 1
              simp [List.getD, hlt])
             have hD : Hq (decide (k < A.length) = true) := hq (decide_eq_true hlt)
             generalize hx : ((st A)[k]'hz).toNat = x at hE
             have hy : (((st A)[k]'hz).toNat : Int) = (x : Int) := by rw [hx]
             clear hx HR
             have HF := hq (show (decide (k < A.length) && notPt (A.getD k 46)) = ((x : Int) != 46) by
              rw [hE.o, hD.o, Bool.true_and]; rfl)
             clear hE
             go_wp2_with fail
             go_meet
             exact ⟨congrArg Value.bool HF.o.symm, rfl⟩
           · have hD : Hq (decide (k < A.length) = false) := hq (decide_eq_false hlt)
             go_wp2_with fail
             go_meet
             exact ⟨by rw [hD.o]; rfl, rfl⟩
          case rest =>
           obtain ⟨rfl, rfl⟩ := hcut
           have hnext : (decide (k < A.length) && notPt (A.getD k 46)) = true → k < A.length ∧ (A.take (k + 1)).all notPt = true := fun h => by
            rw [Bool.and_eq_true, decide_eq_true_iff] at h
            refine ⟨h.1, take_all_succ hd.o h.1 ?_⟩
            have := h.2
            simpa [List.getD, h.1] using this
           have hlast : (decide (k < A.length) && notPt (A.getD k 46)) = false → A.takeWhile notPt = A.take k ∧ A.dropWhile notPt = A.drop k := fun h => by
            refine tw_is A k hd.o (fun hk => ?_) (by omega)
            rw [decide_eq_true hk, Bool.true_and] at h
            simpa [List.getD, hk] using h
           generalize (decide (k < A.length) && notPt (A.getD k 46)) = B at *
           have HX := hq hnext
           have HL := hq hlast
           clear hnext hlast hd
           cases B with
           | true =>
             have hlt := (HX.o rfl).1
             have hd := hq (HX.o rfl).2
             clear HX HL
             go_wp2_with fail
             go_roundg (A.length - (k + 1))
             case rel => exact ⟨k + 1, rfl, by omega, hd, rfl⟩
             case measure => omega
           | false =>
             have HL := hq (HL.o rfl)
             clear HX
             have hkl : k ≤ A.length := by omega
             have HR2 : Hq (R = ⟨neg, A.take k, rfrac (A.drop k), xd, xp, digs (A.take k) && digs (rrest (A.drop k)) && digs xp && wholeOk (A.take k)⟩) := hq (by
              rw [HR.o, HL.o.1, HL.o.2])
             clear HL hk HR
             have HE : Hq (∀ x : ByteArray, x = (st A).extract 0 k → x = st (A.take k)) := hq (fun x hx => by rw [hx, cut_left])
             have hWl : (A.take k).length ≤ 1099511627776 := by rw [List.length_take]; omega
             go_upto_region 18 with fail
             go_cut [12] (fun s wx => s = .string (st (A.take k)) ∧ wx = wc)
             case first =>
              clear HR2
              go_wp2_with fail
              go_meet
              exact ⟨congrArg Value.string (HE.o _ rfl), rfl⟩
             case rest =>
              obtain ⟨rfl, rfl⟩ := hcut
              clear HE
              go_upto_if 94 with fail
              go_cut [13] (fun s wx => s = .string (st (rrest (A.drop k))) ∧ wx = wc)
              case first =>
               clear HR2
               by_cases hlt : k < A.length
               · have HE : Hq (∀ x : ByteArray, x = (st A).extract (k + 1) A.length → x = st (rrest (A.drop k))) := hq (fun x hx => by rw [hx, cut_right, List.drop_eq_getElem_cons hlt]; rfl)
                 go_wp2_with fail
                 go_meet
                 exact ⟨congrArg Value.string (HE.o _ rfl), rfl⟩
               · have HD : Hq (A.drop k = []) := hq (List.drop_eq_nil_of_le (by omega))
                 go_wp2_with fail
                 go_meet
                 exact ⟨by rw [HD.o]; rfl, rfl⟩
              case rest =>
               obtain ⟨rfl, rfl⟩ := hcut
               have hrl : (rrest (A.drop k)).length ≤ 1099511627776 := by
                cases hdk : A.drop k with
                | nil => simp [rrest]
                | cons a b =>
                  have := congrArg List.length hdk
                  rw [List.length_drop, List.length_cons] at this
                  show b.length ≤ _
                  omega
               have hA : k < A.length → rfrac (A.drop k) = rrest (A.drop k) := fun h => by rw [List.drop_eq_getElem_cons h]; rfl
               have hB : ¬ k < A.length → rfrac (A.drop k) = [] := fun h => by rw [List.drop_eq_nil_of_le (by omega)]; rfl
               have HA : Hq (k < A.length → R = ⟨neg, A.take k, rrest (A.drop k), xd, xp, digs (A.take k) && digs (rrest (A.drop k)) && digs xp && wholeOk (A.take k)⟩) := hq (fun h => by rw [HR2.o, hA h])
               have HB : Hq (¬ k < A.length → R = ⟨neg, A.take k, [], xd, xp, digs (A.take k) && digs (rrest (A.drop k)) && digs xp && wholeOk (A.take k)⟩) := hq (fun h => by rw [HR2.o, hB h])
               clear hA hB HR2
               generalize rrest (A.drop k) = Q at *
               generalize hW : A.take k = W at *
               clear hW
               go_upto_region 22 with fail
               go_cut [14] (fun c wx => c = .bool (digs W && digs Q && digs xp && wholeOk W) ∧ wx = wc)
               case first =>
                clear HA HB
                go_wp2_with fail
                refine (rdigs_any W _ hWl).mono ?_
                cases h1 : digs W with
                | false =>
                  rintro e w1 ⟨rfl, rfl⟩
                  go_wp2_with fail
                  go_meet
                  exact ⟨congrArg Value.bool (by simp [h1]), rfl⟩
                | true =>
                  rintro e w1 ⟨rfl, rfl⟩
                  go_wp2_with fail
                  refine (rdigs_any Q _ hrl).mono ?_
                  cases h2 : digs Q with
                  | false =>
                    rintro e w1 ⟨rfl, rfl⟩
                    go_wp2_with fail
                    go_meet
                    exact ⟨congrArg Value.bool (by simp [h2]), rfl⟩
                  | true =>
                    rintro e w1 ⟨rfl, rfl⟩
                    go_wp2_with fail
                    refine (rdigs_any xp _ hxt).mono ?_
                    cases h3 : digs xp with
                    | false =>
                      rintro e w1 ⟨rfl, rfl⟩
                      go_wp2_with fail
                      go_meet
                      exact ⟨congrArg Value.bool (by simp [h3]), rfl⟩
                    | true =>
                      rintro e w1 ⟨rfl, rfl⟩
                      have hp : 0 < W.length := by
                       have := of_decide_eq_true h1
                       exact List.length_pos_iff.2 this.1
                      have hz : 0 < (st W).size := by rw [st_size]; exact hp
                      have HW : Hq ((digs W && digs Q && digs xp && wholeOk W) = (W == [48] || ((((st W)[0]'hz).toNat : Int) != 48))) := hq (by
                       rw [h1, h2, h3, Bool.true_and, Bool.true_and, Bool.true_and, get_st]
                       unfold wholeOk
                       cases W with
                       | nil => simp at hp
                       | cons c t =>
                         rw [Bool.eq_iff_iff, decide_eq_true_iff, Bool.or_eq_true, beq_iff_eq, bne_iff_ne, List.head?_cons]
                         refine or_congr Iff.rfl ?_
                         show (some c ≠ some 48) ↔ ((c.toNat : Int) ≠ 48)
                         rw [Ne, Option.some.injEq, ← UInt8.toNat_inj]
                         show ¬ c.toNat = 48 ↔ _
                         omega)
                      clear h1 h2 h3
                      by_cases e48 : W = [48]
                      · subst e48
                        go_wp2_with fail
                        go_meet
                        exact ⟨congrArg Value.bool (HW.o.trans rfl).symm, rfl⟩
                      · have e49 : (W == [48]) = false := beq_eq_false_iff_ne.2 e48
                        have HW2 : Hq ((digs W && digs Q && digs xp && wholeOk W) = ((((st W)[0]'hz).toNat : Int) != 48)) := hq (by rw [HW.o, e49, Bool.false_or])
                        clear HW
                        have e50 : ¬ W = [48] := e48
                        go_wp2_with fail
                        go_meet
                        exact ⟨congrArg Value.bool HW2.o.symm, rfl⟩
               case rest =>
                obtain ⟨rfl, rfl⟩ := hcut
                generalize (digs W && digs Q && digs xp && wholeOk W) = OK at *
                by_cases hlt : k < A.length
                · have HN := hq (HA.o hlt)
                  clear HA HB
                  go_wp2_with fail
                  refine bodyPost_ret (v := .tuple #[.bool neg, .string (st W), .string (st Q), .bool xd, .string (st xp), .bool OK]) ?_ rfl ?_
                  · simp [results, Tryz.results124, go_sem]
                  · exact ⟨by rw [HN.o], rfl⟩
                · have HN := hq (HB.o hlt)
                  clear HA HB
                  have hke : k = A.length := by omega
                  subst hke
                  go_wp2_with fail
                  refine bodyPost_ret (v := .tuple #[.bool neg, .string (st W), .string (st []), .bool xd, .string (st xp), .bool OK]) ?_ rfl ?_
                  · simp [results, Tryz.results124, go_sem]
                  · exact ⟨by rw [HN.o], rfl⟩
theorem stripZ_step (c d : UInt8) (x : Bs) : stripZ (c :: d :: x) = if c = 48 then stripZ (d :: x) else c :: d :: x := by rw [stripZ]
def zeroAhead : Bs → Bool
 | c :: _ :: _ => (c.toNat : Int) == 48
 | _ => false
theorem zeroAhead_no {x : Bs} (h : zeroAhead x = false) : stripZ x = x := by
 cases x with
 | nil => rfl
 | cons c x =>
   cases x with
   | nil => rfl
   | cons d x =>
     have h1 : ((c.toNat : Int) == 48) = false := h
     rw [stripZ_step, if_neg]
     intro hc
     subst hc
     simp at h1
theorem zeroAhead_yes {x : Bs} (h : zeroAhead x = true) : stripZ x = stripZ x.tail ∧ x.tail.length + 1 = x.length := by
 cases x with
 | nil => cases h
 | cons c x =>
   cases x with
   | nil => cases h
   | cons d x =>
     have h1 : ((c.toNat : Int) == 48) = true := h
     rw [beq_iff_eq] at h1
     have h2 : c = 48 := UInt8.toNat_inj.1 (show c.toNat = 48 by omega)
     rw [stripZ_step, if_pos h2]
     exact ⟨rfl, rfl⟩
def noughtAhead : Bs → Bool
 | c :: _ => (c.toNat : Int) == 48
 | _ => false
theorem noughtAhead_eq (c : UInt8) (x : Bs) : noughtAhead (c :: x) = true ↔ c = 48 := by
 show ((c.toNat : Int) == 48) = true ↔ _
 rw [beq_iff_eq, ← UInt8.toNat_inj]
 show _ ↔ c.toNat = 48
 omega
theorem noughtAhead_no {x : Bs} (h : noughtAhead x = false) : stripL x = x := by
 cases x with
 | nil => rfl
 | cons c x => rw [stripL_cons, if_neg (fun hc => by rw [(noughtAhead_eq c x).2 hc] at h; cases h)]
theorem noughtAhead_yes {x : Bs} (h : noughtAhead x = true) : stripL x = stripL x.tail ∧ x.tail.length + 1 = x.length := by
 cases x with
 | nil => cases h
 | cons c x => rw [stripL_cons, if_pos ((noughtAhead_eq c x).1 h)]; exact ⟨rfl, rfl⟩
theorem stripR_step (y : Bs) (c : UInt8) : stripR (y ++ [c]) = if c = 48 then stripR y else y ++ [c] := stripR_snoc y c
theorem snoc_of {y : Bs} (h : y ≠ []) : ∃ z c, y = z ++ [c] := ⟨y.dropLast, y.getLast h, (List.dropLast_concat_getLast h).symm⟩
theorem dig_sub {c : Nat} (h : 48 ≤ c) (h' : c ≤ 57) : IntKind.u8.wrap ((c : Int) - 48) = (c : Int) - 48 := by
 unfold IntKind.wrap
 simp [IntKind.bits, IntKind.signed]
 omega
theorem rexp_facts (l : Bs) : (rexp l).2.length ≤ l.length + 1 := by
 cases l with
 | nil => simp [rexp]
 | cons a b =>
   have h1 : b.tail.length ≤ b.length := by rw [List.length_tail]; omega
   unfold rexp
   simp only [List.length_cons]
   split
   · simp only; omega
   · simp only; split <;> omega
theorem rpartsW_len (neg : Bool) (m : Bs) : (rpartsW neg m).whole.length ≤ m.length ∧ (rpartsW neg m).frac.length ≤ m.length ∧ (rpartsW neg m).exp.length ≤ m.length + 1 ∧ ((rpartsW neg m).ok = true → (rpartsW neg m).exp.all isDig = true) := by
 unfold rpartsW
 simp only
 have h1 := (List.takeWhile_prefix notE (l := m)).length_le
 have h2 := (List.takeWhile_prefix notPt (l := m.takeWhile notE)).length_le
 have h3 := (List.dropWhile_suffix notPt (l := m.takeWhile notE)).length_le
 have h4 := (List.dropWhile_suffix notE (l := m)).length_le
 have h5 := rexp_facts (m.dropWhile notE)
 have h6 : (rfrac ((m.takeWhile notE).dropWhile notPt)).length ≤ ((m.takeWhile notE).dropWhile notPt).length := by
  cases (m.takeWhile notE).dropWhile notPt with
  | nil => simp [rfrac]
  | cons a b => simp [rfrac]
 refine ⟨by omega, by omega, by omega, fun h => ?_⟩
 simp only [Bool.and_eq_true] at h
 exact (of_decide_eq_true h.1.2).2
theorem rpartsM_len (l : Bs) : (rpartsM l).whole.length ≤ l.length ∧ (rpartsM l).frac.length ≤ l.length ∧ (rpartsM l).exp.length ≤ l.length + 1 ∧ ((rpartsM l).ok = true → (rpartsM l).exp.all isDig = true) := by
 unfold rpartsM
 split
 · obtain ⟨a, b, c, d⟩ := rpartsW_len true l.tail
   rw [List.length_tail] at a b c
   exact ⟨by omega, by omega, by omega, d⟩
 · exact rpartsW_len false l
def PPost (r : Dec × Int) (w : World) (e : Ending) (w' : World) : Prop := e = .returned (.tuple #[r.1.val, .int .i64 r.2]) ∧ Below w.heap.size w w'
set_option maxHeartbeats 4000000 in
set_option maxRecDepth 1000000 in
theorem rparse_any (l : Bs) (w : World) (hl : l.length ≤ 1099511627776) :
 Calls Tryz.prog 71 #[.string (st l)] w (PPost (parseM l) w) := by
 rw [← rparseM_eq]
 generalize hR : rparseM l = R
 have HR := hq hR
 clear hR
 go_enter Tryz.func71, Tryz.ntmps71
 have hW := Whole.made w 66 #[.bool false, .string (st []), .int .i64 0]
 have hb := below_alloc w (.cells #[.bool false, .string (st []), .int .i64 0] 66)
 go_wp2_with fail
 refine (rparts_any l _ hl).mono ?_
 rintro e w1 ⟨rfl, hw1⟩
 obtain rfl := hw1.symm
 have HR2 : Hq (R = (if (rpartsM l).ok = false then (.zero, 2) else if 1000 < (rpartsM l).whole.length + (rpartsM l).frac.length then (.zero, 3)
  else if 9 < (stripZ (rpartsM l).exp).length then (.zero, 4) else rnum (rpartsM l).neg (rpartsM l).down (stripZ (rpartsM l).exp) (rpartsM l).frac (stripL ((rpartsM l).whole ++ (rpartsM l).frac)))) := hq HR.o.symm
 have hlen : (rpartsM l).whole.length ≤ 1099511627776 ∧ (rpartsM l).frac.length ≤ 1099511627776 ∧ (rpartsM l).exp.length ≤ 1099511627777 := by
  obtain ⟨a, b, c, _⟩ := rpartsM_len l
  exact ⟨by omega, by omega, by omega⟩
 have hdg : (rpartsM l).ok = true → (rpartsM l).exp.all isDig = true := (rpartsM_len l).2.2.2
 have HDG := hq hdg
 clear hdg
 generalize rpartsM l = q at *
 obtain ⟨neg, whole, frac, down, ex, ok⟩ := q
 simp only at HR2 hlen HDG ⊢
 clear HR
 obtain ⟨hl1, hl2, hl3⟩ := hlen
 generalize hWW : w.alloc (.cells #[.bool false, .string (st []), .int .i64 0] 66) = W at *
 clear hWW
 obtain ⟨r0, r1, r2⟩ := three_cells hW
 have q0 := hW.free 0
 have q1 := hW.free 1
 have q2 := hW.free 2
 cases ok with
 | false =>
   have HN := hq (HR2.o.trans (if_pos rfl))
   clear HR2
   go_wp2_with fail
   refine bodyPost_ret (v := .tuple #[Dec.zero.val, .int .i64 2]) ?_ rfl ?_
   · obtain ⟨z0, z1, z2⟩ := three_cells (by simpa using (((hW.put 0 (.bool false)).put 1 (.string ⟨#[]⟩)).put 2 (.int .i64 0)))
     simp [results, Tryz.results71, go_sem, z0, z1, z2, Dec.zero, Dec.val]
   · exact ⟨by rw [HN.o], ((hb.setCell (p := ⟨w.heap.size, 0, none⟩) (by simp) _).setCell (p := ⟨w.heap.size, 1, none⟩) (by simp) _).setCell (p := ⟨w.heap.size, 2, none⟩) (by simp) _⟩
 | true =>
   have HR3 := hq (HR2.o.trans (if_neg (by simp)))
   clear HR2
   by_cases hk : 1000 < whole.length + frac.length
   · have HN := hq (HR3.o.trans (if_pos hk))
     clear HR3
     go_wp2_with fail
     refine bodyPost_ret (v := .tuple #[Dec.zero.val, .int .i64 3]) ?_ rfl ?_
     · obtain ⟨z0, z1, z2⟩ := three_cells (by simpa using (((hW.put 0 (.bool false)).put 1 (.string ⟨#[]⟩)).put 2 (.int .i64 0)))
       simp [results, Tryz.results71, go_sem, z0, z1, z2, Dec.zero, Dec.val]
     · exact ⟨by rw [HN.o], ((hb.setCell (p := ⟨w.heap.size, 0, none⟩) (by simp) _).setCell (p := ⟨w.heap.size, 1, none⟩) (by simp) _).setCell (p := ⟨w.heap.size, 2, none⟩) (by simp) _⟩
   · have HR4 := hq (HR3.o.trans (if_neg hk))
     clear HR3
     go_wp2_with fail
     go_loopg [8] ex.length (fun g a wx => ∃ x : Bs, a = .string (st x) ∧ x.length = g ∧ x.length ≤ ex.length ∧ Hq (stripZ x = stripZ ex) ∧ Hq (x.all isDig = true) ∧ wx = W)
     case atStart => exact ⟨ex, rfl, rfl, by omega, hq rfl, hq (HDG.o (by trivial)), rfl⟩
     case round =>
      obtain ⟨x, rfl, hx, hxl, hsz, hxd, rfl⟩ := hrel
      have hx1 : x.length ≤ gk := by omega
      have hx2 : gk ≤ x.length := by omega
      clear hx
      go_upto_region 6 with fail
      go_cut [39] from 32 to 41 (fun c wx => c = .bool (zeroAhead x) ∧ wx = wr)
      case first =>
       clear HR4
       cases x with
       | nil =>
         go_wp2_with fail
         go_meet
         exact ⟨rfl, rfl⟩
       | cons c x =>
         cases x with
         | nil =>
           go_wp2_with fail
           go_meet
           exact ⟨rfl, rfl⟩
         | cons d x =>
           have hy : (((st (c :: d :: x))[0]'(by rw [st_size]; simp)).toNat : Int) = (c.toNat : Int) := rfl
           simp only [List.length_cons] at hx1 hx2 hxl
           go_wp2_with fail
           go_meet
           exact ⟨rfl, rfl⟩
      case rest =>
       obtain ⟨rfl, rfl⟩ := hcut
       have hY := @zeroAhead_yes x
       have hN := @zeroAhead_no x
       generalize zeroAhead x = B at *
       have HY := hq hY
       have HN := hq hN
       clear hY hN
       cases B with
       | true =>
         obtain ⟨e1, e2⟩ := HY.o rfl
         have HE := hq (e1.symm.trans hsz.o)
         have HT : Hq (x.tail.all isDig = true) := hq (by
          have := hxd.o
          rw [List.all_eq_true] at this ⊢
          exact fun y hy => this y (List.mem_of_mem_tail hy))
         have HC : Hq (∀ y : ByteArray, y = (st x).extract 1 x.length → y = st x.tail) := hq (fun y hy => by rw [hy, cut_right, List.drop_one])
         clear e1 HY HN hsz hxd
         go_wp2_with fail
         go_roundg (gk - 1)
         case rel => exact ⟨x.tail, congrArg Value.string (HC.o _ rfl), by omega, by omega, HE, HT, rfl⟩
         case measure => omega
       | false =>
         have HZ := hq ((HN.o rfl).symm.trans hsz.o)
         clear HY HN hsz
         clear HDG
         rw [← HZ.o] at HR4
         clear HZ hxl hx1 hx2
         by_cases h9 : 9 < x.length
         · have HN := hq (HR4.o.trans (if_pos h9))
           clear HR4
           go_wp2_with fail
           refine bodyPost_ret (v := .tuple #[Dec.zero.val, .int .i64 4]) ?_ rfl ?_
           · obtain ⟨z0, z1, z2⟩ := three_cells (by simpa using (((hW.put 0 (.bool false)).put 1 (.string ⟨#[]⟩)).put 2 (.int .i64 0)))
             simp [results, Tryz.results71, go_sem, z0, z1, z2, Dec.zero, Dec.val]
           · exact ⟨by rw [HN.o], ((hb.setCell (p := ⟨w.heap.size, 0, none⟩) (by simp) _).setCell (p := ⟨w.heap.size, 1, none⟩) (by simp) _).setCell (p := ⟨w.heap.size, 2, none⟩) (by simp) _⟩
         · have HR5 := hq (HR4.o.trans (if_neg h9))
           clear HR4
           have hbd := numOf_le x hxd.o (by omega)
           go_wp2_with fail
           go_loop [10, 11] (fun s i => ∃ k : Nat, k ≤ x.length ∧ i = .int .i64 k ∧ s = .int .i64 (numOf (x.take k))) (fun _ i => x.length - (intOf i).toNat)
           case atStart => exact ⟨0, by omega, rfl, rfl⟩
           case round =>
            obtain ⟨k, hk, rfl, rfl⟩ := hrel
            have hbk := numOf_le (x.take k) (by have := hxd.o; rw [List.all_eq_true] at this ⊢; exact fun y hy => this y (List.mem_of_mem_take hy)) (by rw [List.length_take]; omega)
            obtain ⟨hb1, hb2⟩ := hbk
            by_cases hlt : k < x.length
            · have hz : k < (st x).size := by rw [st_size]; exact hlt
              have hdk : 48 ≤ ((st x)[k]'hz).toNat ∧ ((st x)[k]'hz).toNat ≤ 57 := by
               have := List.all_eq_true.1 hxd.o x[k] (List.getElem_mem hlt)
               unfold isDig at this
               simp only [Bool.and_eq_true, decide_eq_true_eq] at this
               exact this
              have hsn : Hq (numOf (x.take (k + 1)) = numOf (x.take k) * 10 + ((((st x)[k]'hz).toNat : Int) - 48)) := hq (by
               rw [List.take_succ_eq_append_getElem hlt, numOf_snoc]; rfl)
              have hwr := dig_sub hdk.1 hdk.2
              generalize hX : ((st x)[k]'hz).toNat = c at *
              have hy : (((st x)[k]'hz).toNat : Int) = (c : Int) := by rw [hX]
              clear hX
              generalize numOf (x.take k) = s at *
              generalize hS : numOf (x.take (k + 1)) = s' at *
              obtain ⟨hd1, hd2⟩ := hdk
              have HS := hq hS
              clear hS
              go_wp2_with fail
              go_round
              case rel => exact ⟨k + 1, by omega, by go_num, by rw [HS.o, hsn.o]; exact int_eq (by omega)⟩
              case measure => simp [intOf]; omega
            · obtain rfl : k = x.length := by omega
              rw [List.take_length]
              clear hxd hb1 hb2
              obtain ⟨hb1, hb2⟩ := hbd
              have HE1 : Hq (expOf down x = if down = true then - numOf x else numOf x) := hq rfl
              have HR7 : Hq (∀ D, stripL (whole ++ frac) = D → R = if D = [] then (.zero, 0) else if expOf down x - frac.length + D.length - (stripR D).length < -1000000 ∨ 1000000 < expOf down x - frac.length + D.length - (stripR D).length then (.zero, 4) else (⟨neg, stripR D, expOf down x - frac.length + D.length - (stripR D).length⟩, 0)) := hq (fun D hD => by
               rw [HR5.o, hD]; rfl)
              clear HR5
              have he1 : -999999999 ≤ expOf down x ∧ expOf down x ≤ 999999999 := by unfold expOf; split <;> omega
              generalize numOf x = X at *
              generalize hE : expOf down x = E0 at *
              clear hE
              go_upto_if 60 with fail
              go_cut [10] (fun s wx => s = .int .i64 E0 ∧ wx = wc)
              case first =>
               cases down with
               | true =>
                 go_wp2_with fail
                 go_meet
                 exact ⟨by rw [HE1.o]; rfl, rfl⟩
               | false =>
                 go_wp2_with fail
                 go_meet
                 exact ⟨by rw [HE1.o]; rfl, rfl⟩
              case rest =>
               obtain ⟨rfl, rfl⟩ := hcut
               clear HE1 hb1 hb2 hlt hk h9
               obtain ⟨he1, he2⟩ := he1
               go_wp2_with fail
               rw [cat_st]
               have hal : (whole ++ frac).length ≤ 1000 := by rw [List.length_append]; omega
               have HD0 := hq (stripL_head (whole ++ frac))
               have hfl : frac.length ≤ 1000 := by omega
               generalize whole ++ frac = ALL at *
               go_loopg [12] ALL.length (fun g a wx => ∃ y : Bs, a = .string (st y) ∧ y.length ≤ g ∧ g ≤ y.length ∧ y.length ≤ 1000 ∧ Hq (stripL y = stripL ALL) ∧ wx = wc)
               case atStart => exact ⟨ALL, rfl, by omega, by omega, hal, hq rfl, rfl⟩
               case round =>
                obtain ⟨y, rfl, hy1, hy2, hyl, hys, rfl⟩ := hrel
                go_upto_region 19 with fail
                go_cut [77] from 70 to 79 (fun c wx => c = .bool (noughtAhead y) ∧ wx = wr)
                case first =>
                 clear HR7 HD0 hys
                 cases y with
                 | nil =>
                   go_wp2_with fail
                   go_meet
                   exact ⟨rfl, rfl⟩
                 | cons c y =>
                   have hy : (((st (c :: y))[0]'(by rw [st_size]; simp)).toNat : Int) = (c.toNat : Int) := rfl
                   simp only [List.length_cons] at hy1 hy2 hyl
                   go_wp2_with fail
                   go_meet
                   exact ⟨rfl, rfl⟩
                case rest =>
                 obtain ⟨rfl, rfl⟩ := hcut
                 have hY := @noughtAhead_yes y
                 have hN := @noughtAhead_no y
                 generalize noughtAhead y = B at *
                 have HY := hq hY
                 have HN := hq hN
                 clear hY hN
                 cases B with
                 | true =>
                   obtain ⟨e1, e2⟩ := HY.o rfl
                   have HE := hq (e1.symm.trans hys.o)
                   have HC : Hq (∀ z : ByteArray, z = (st y).extract 1 y.length → z = st y.tail) := hq (fun z hz => by rw [hz, cut_right, List.drop_one])
                   clear e1 HY HN hys HR7 HD0
                   go_wp2_with fail
                   go_roundg (gk - 1)
                   case rel => exact ⟨y.tail, congrArg Value.string (HC.o _ rfl), by omega, by omega, by omega, HE, rfl⟩
                   case measure => omega
                 | false =>
                   have hys2 := (HN.o rfl).symm.trans hys.o
                   have HD := hq (HR7.o y hys2.symm)
                   have HY0 : Hq (y.head? ≠ some 48) := hq (by rw [hys2]; exact HD0.o)
                   clear HY HN hys hys2 HR7 HD0 hy1 hy2 hal
                   by_cases hy0 : y = []
                   · have HN := hq (HD.o.trans (if_pos hy0))
                     subst hy0
                     clear HD HY0
                     go_wp2_with fail
                     refine bodyPost_ret (v := .tuple #[Dec.zero.val, .int .i64 0]) ?_ rfl ?_
                     · obtain ⟨z0, z1, z2⟩ := three_cells (by simpa using (((hW.put 0 (.bool false)).put 1 (.string ⟨#[]⟩)).put 2 (.int .i64 0)))
                       simp [results, Tryz.results71, go_sem, z0, z1, z2, Dec.zero, Dec.val]
                     · exact ⟨by rw [HN.o], ((hb.setCell (p := ⟨w.heap.size, 0, none⟩) (by simp) _).setCell (p := ⟨w.heap.size, 1, none⟩) (by simp) _).setCell (p := ⟨w.heap.size, 2, none⟩) (by simp) _⟩
                   · have HD2 := hq (HD.o.trans (if_neg hy0))
                     clear HD
                     have hem : y.isEmpty = false := by cases y with | nil => exact absurd rfl hy0 | cons _ _ => rfl
                     have hyp : 0 < y.length := List.length_pos_iff.2 hy0
                     go_wp2_with fail
                     go_loopg [10, 12] y.length (fun g v a wx => ∃ (z : Bs) (e : Int), a = .string (st z) ∧ v = .int .i64 e ∧ z.length ≤ g ∧ 0 < z.length ∧ z.length ≤ 1000 ∧ Hq (e + z.length = E0 - frac.length + y.length) ∧ -1000001000 ≤ e ∧ e + z.length ≤ 1000001000 ∧ Hq (stripR z = stripR y) ∧ Hq (z.head? ≠ some 48) ∧ wx = wc)
                     case atStart => exact ⟨y, E0 - frac.length, rfl, rfl, by omega, hyp, hyl, hq rfl, by omega, by omega, hq rfl, HY0, rfl⟩
                     case round =>
                      obtain ⟨z, e, rfl, rfl, hz1, hz2, hz3, hze, he3, he4, hzs, hzh, rfl⟩ := hrel
                      have hzi : z.length - 1 < (st z).size := by rw [st_size]; omega
                      obtain ⟨t, c, htc⟩ := snoc_of (List.length_pos_iff.1 hz2)
                      have htl : z.length = t.length + 1 := by rw [htc]; simp
                      have hc : ((st z)[z.length - 1]'hzi) = c := by
                       rw [get_st]
                       simp [htc]
                      have hcut2 : Hq (∀ u : ByteArray, u = (st z).extract 0 (z.length - 1) → u = st t) := hq (fun u hu => by
                       rw [hu, cut_left]; congr 1; rw [htl, htc]; simp)
                      have HS : Hq (stripR z = if c = 48 then stripR t else z) := hq (by rw [htc]; exact stripR_step t c)
                      have HC : Hq (c = 48 ↔ ((c.toNat : Int) == 48) = true) := hq (by
                       rw [beq_iff_eq, ← UInt8.toNat_inj]
                       show c.toNat = 48 ↔ _
                       omega)
                      have HT0 : Hq (c = 48 → t ≠ []) := hq (fun h ht => hzh.o (by rw [htc, ht, h]; rfl))
                      have HTH : Hq (t ≠ [] → t.head? ≠ some 48) := hq (fun h => by
                       have := hzh.o
                       rw [htc] at this
                       cases t with
                       | nil => exact absurd rfl h
                       | cons a b => exact this)
                      have hy : ((((st z)[z.length - 1]'hzi).toNat : Nat) : Int) = (c.toNat : Int) := by rw [hc]
                      have htl1 : t.length + 1 ≤ z.length := by omega
                      have htl2 : z.length ≤ t.length + 1 := by omega
                      clear htc hc htl HY0
                      cases hB : ((c.toNat : Int) == 48) with
                      | true =>
                        have h48 := HC.o.2 hB
                        have hS2 := hq ((HS.o.trans (if_pos h48)).symm.trans hzs.o)
                        have ht0 := HT0.o h48
                        have hth := hq (HTH.o ht0)
                        have htp : 0 < t.length := List.length_pos_iff.2 ht0
                        clear HS HC HT0 HTH h48 ht0 HD2
                        go_wp2_with fail
                        go_roundg (gk - 1)
                        case rel => exact ⟨t, e + 1, congrArg Value.string (hcut2.o _ rfl), rfl, by omega, htp, by omega, hq (by have := hze.o; omega), by omega, by omega, hS2, hth, rfl⟩
                        case measure => omega
                      | false =>
                        have hS2 := (HS.o.trans (if_neg (fun h => by rw [HC.o.1 h] at hB; cases hB))).symm.trans hzs.o
                        have HE : Hq (R = if e < -1000000 ∨ 1000000 < e then (.zero, 4) else (⟨neg, z, e⟩, 0)) := hq (by
                         have h1 := hze.o
                         rw [HD2.o, ← hS2, show E0 - (frac.length : Int) + (y.length : Int) - (z.length : Int) = e by omega])
                        clear HS HC HT0 HTH hS2 HD2 hcut2 hze hzs hzh
                        by_cases g1 : e < -1000000
                        · have HN := hq (HE.o.trans (if_pos (.inl g1)))
                          clear HE
                          go_wp2_with fail
                          refine bodyPost_ret (v := .tuple #[Dec.zero.val, .int .i64 4]) ?_ rfl ?_
                          · obtain ⟨z0, z1, z2⟩ := three_cells (by simpa using (((hW.put 0 (.bool false)).put 1 (.string ⟨#[]⟩)).put 2 (.int .i64 0)))
                            simp [results, Tryz.results71, go_sem, z0, z1, z2, Dec.zero, Dec.val]
                          · exact ⟨by rw [HN.o], ((hb.setCell (p := ⟨w.heap.size, 0, none⟩) (by simp) _).setCell (p := ⟨w.heap.size, 1, none⟩) (by simp) _).setCell (p := ⟨w.heap.size, 2, none⟩) (by simp) _⟩
                        · by_cases g2 : 1000000 < e
                          · have HN := hq (HE.o.trans (if_pos (.inr g2)))
                            clear HE
                            go_wp2_with fail
                            refine bodyPost_ret (v := .tuple #[Dec.zero.val, .int .i64 4]) ?_ rfl ?_
                            · obtain ⟨z0, z1, z2⟩ := three_cells (by simpa using (((hW.put 0 (.bool false)).put 1 (.string ⟨#[]⟩)).put 2 (.int .i64 0)))
                              simp [results, Tryz.results71, go_sem, z0, z1, z2, Dec.zero, Dec.val]
                            · exact ⟨by rw [HN.o], ((hb.setCell (p := ⟨w.heap.size, 0, none⟩) (by simp) _).setCell (p := ⟨w.heap.size, 1, none⟩) (by simp) _).setCell (p := ⟨w.heap.size, 2, none⟩) (by simp) _⟩
                          · have HN := hq (HE.o.trans (if_neg (by omega)))
                            clear HE
                            go_wp2_with fail
                            refine bodyPost_ret (v := .tuple #[(Dec.mk neg z e).val, .int .i64 0]) ?_ rfl ?_
                            · obtain ⟨z0, z1, z2⟩ := three_cells (by simpa using (((hW.put 0 (.bool neg)).put 1 (.string (st z))).put 2 (.int .i64 e)))
                              simp [results, Tryz.results71, go_sem, z0, z1, z2, Dec.val]
                            · exact ⟨by rw [HN.o], ((hb.setCell (p := ⟨w.heap.size, 0, none⟩) (by simp) _).setCell (p := ⟨w.heap.size, 1, none⟩) (by simp) _).setCell (p := ⟨w.heap.size, 2, none⟩) (by simp) _⟩
theorem dig_cut (r : Nat) (h : r < 10) : (⟨#[48, 49, 50, 51, 52, 53, 54, 55, 56, 57]⟩ : ByteArray).extract r (r + 1) = st [UInt8.ofNat (48 + r)] := by
 match r, h with
 | 0, _ => rfl
 | 1, _ => rfl
 | 2, _ => rfl
 | 3, _ => rfl
 | 4, _ => rfl
 | 5, _ => rfl
 | 6, _ => rfl
 | 7, _ => rfl
 | 8, _ => rfl
 | 9, _ => rfl
 | n + 10, h => omega
def DcmlPost (s : ByteArray) (w : World) (e : Ending) (w' : World) : Prop := e = .returned (.string s) ∧ ∃ m, w' = w.drewN m
def Dcml (n : Int) : Prop := ∀ w : World, Calls Tryz.prog 127 #[.int .i64 n] w fun e w' => e = .returned (.string (st (Lib.itoa n))) ∧ ∃ m, w' = w.drewN m
theorem itoa_of (n : Int) : Lib.itoa n = if n < 0 then 45 :: Lib.decDigits n.natAbs else Lib.decDigits n.natAbs := by
 unfold Lib.itoa
 split
 · rfl
 · rename_i h; rw [show n.toNat = n.natAbs by omega]
theorem itoa_pos (u : Nat) : Lib.itoa (u : Int) = Lib.decDigits u := by rw [itoa_of, if_neg (by omega)]; rfl
theorem itoa_minus (u : Nat) (hu : 0 < u) : Lib.itoa (-(u : Int)) = 45 :: Lib.decDigits u := by rw [itoa_of, if_pos (by omega), show (-(u : Int)).natAbs = u by omega]
theorem dec_step (q r : Nat) (h : r < 10) (hq : 0 < q) : Lib.decDigits (10 * q + r) = Lib.decDigits q ++ [UInt8.ofNat (48 + r)] := by
 rw [dec_great (by omega), show (10 * q + r) / 10 = q by omega, show (10 * q + r) % 10 = r by omega]
set_option maxHeartbeats 1000000 in
set_option maxRecDepth 1000000 in
theorem dcml_small (r : Nat) (h : r < 10) : Dcml r := by
 intro w
 have hc := dig_cut r h
 have HI : Hq (Lib.itoa r = [UInt8.ofNat (48 + r)]) := hq (by rw [itoa_pos, dec_small h])
 generalize UInt8.ofNat (48 + r) = c at *
 go_enter Tryz.func127, Tryz.ntmps127
 go_wp2_with fail
 go_ret
 exact ⟨by rw [HI.o]; rfl, 0, rfl⟩
set_option maxHeartbeats 1000000 in
set_option maxRecDepth 1000000 in
theorem dcml_neg (r : Nat) (h0 : 0 < r) (h : r < 10) : Dcml (-(r : Int)) := by
 intro w
 have hc := dig_cut r h
 have HI : Hq (st (Lib.itoa (-(r : Int))) = st [45] ++ st [UInt8.ofNat (48 + r)]) := hq (by rw [itoa_minus r h0, dec_small h]; rfl)
 generalize UInt8.ofNat (48 + r) = c at *
 have g1 : ¬ (0 : Int) ≤ -(r : Int) := by omega
 have g2 : ¬ (0 : Int) < -(r : Int) := by omega
 have g3 : (-10 : Int) < -(r : Int) := by omega
 go_enter Tryz.func127, Tryz.ntmps127
 go_wp2_with fail
 go_ret
 exact ⟨by rw [HI.o]; rfl, 0, rfl⟩
set_option maxHeartbeats 1000000 in
set_option maxRecDepth 1000000 in
theorem dcml_step (q r n : Nat) (h : r < 10) (hq0 : 0 < q) (hn : n = 10 * q + r) (hb : n ≤ 9223372036854775807) (ih : Dcml q) : Dcml (n : Int) := by
 intro w
 have hc := dig_cut r h
 have HI : Hq (st (Lib.itoa q) ++ st [UInt8.ofNat (48 + r)] = st (Lib.itoa (n : Int))) := hq (by
  rw [cat_st, itoa_pos, itoa_pos, hn, dec_step q r h hq0])
 generalize UInt8.ofNat (48 + r) = c at *
 have e1 : (n : Int).tdiv 10 = q := by rw [Int.tdiv_eq_ediv_of_nonneg (by omega)]; omega
 have e2 : (n : Int).tmod 10 = r := by rw [Int.tmod_eq_emod_of_nonneg (by omega)]; omega
 have e3 : IntKind.i64.wrap ((r : Int) + 1) = (r : Int) + 1 := IntWalk.i64_in _ (by omega)
 have e4 : ((r : Int) + 1).toNat = r + 1 := by omega
 have e7 : wrap64 (q : Int) = (q : Int) := by unfold wrap64; omega
 have hL : (Lib.itoa q).length ≤ 1000 := Nat.le_trans (Lib.itoa_length_le _ (by omega) (by omega)) (by omega)
 have hz : (st (Lib.itoa q)).size ≤ 1000 := by rw [st_size]; exact hL
 have g1 : ¬ (n : Int) < 10 := by omega
 have g2 : (0 : Int) < (n : Int) := by omega
 have g3 : (0 : Int) ≤ (n : Int) := by omega
 have IH := hq ih
 clear ih hn
 go_enter Tryz.func127, Tryz.ntmps127
 go_upto_region 5 with fail
 go_quiet ((go_at_call 127; exact Calls.quiet_of (IH.o _)))
 go_wp2_with fail
 go_ret
 exact ⟨by rw [← HI.o]; rfl, nq, rfl⟩
set_option maxHeartbeats 1000000 in
set_option maxRecDepth 1000000 in
theorem dcml_stepN (q r n : Nat) (h : r < 10) (hq0 : 0 < q) (hn : n = 10 * q + r) (hb : n ≤ 9223372036854775808) (ih : Dcml (-(q : Int))) : Dcml (-(n : Int)) := by
 intro w
 have hc := dig_cut r h
 have HI : Hq (st (Lib.itoa (-(q : Int))) ++ st [UInt8.ofNat (48 + r)] = st (Lib.itoa (-(n : Int)))) := hq (by
  rw [cat_st, itoa_minus q hq0, itoa_minus n (by omega), hn, dec_step q r h hq0]; rfl)
 generalize UInt8.ofNat (48 + r) = c at *
 have e1 : (-(n : Int)).tdiv 10 = -(q : Int) := by rw [Int.neg_tdiv, Int.tdiv_eq_ediv_of_nonneg (by omega)]; omega
 have e2 : (-(n : Int)).tmod 10 = -(r : Int) := by rw [Int.neg_tmod, Int.tmod_eq_emod_of_nonneg (by omega)]; omega
 have e5 : IntKind.i64.wrap (- -(r : Int)) = (r : Int) := by rw [Int.neg_neg]; exact IntWalk.i64_in _ (by omega)
 have e6 : IntKind.i64.wrap (r : Int) = (r : Int) := IntWalk.i64_in _ (by omega)
 have e3 : IntKind.i64.wrap ((r : Int) + 1) = (r : Int) + 1 := IntWalk.i64_in _ (by omega)
 have e4 : ((r : Int) + 1).toNat = r + 1 := by omega
 have e7 : wrap64 (-(q : Int)) = -(q : Int) := by unfold wrap64; omega
 have hL : (Lib.itoa (-(q : Int))).length ≤ 1000 := Nat.le_trans (Lib.itoa_length_le _ (by omega) (by omega)) (by omega)
 have hz : (st (Lib.itoa (-(q : Int)))).size ≤ 1000 := by rw [st_size]; exact hL
 have g1 : ¬ (0 : Int) ≤ -(n : Int) := by omega
 have g2 : ¬ (0 : Int) < -(n : Int) := by omega
 have g3 : ¬ (-10 : Int) < -(n : Int) := by omega
 have IH := hq ih
 clear ih hn
 go_enter Tryz.func127, Tryz.ntmps127
 go_upto_region 8 with fail
 go_quiet ((go_at_call 127; exact Calls.quiet_of (IH.o _)))
 go_wp2_with fail
 go_ret
 exact ⟨by rw [← HI.o]; rfl, nq, rfl⟩
theorem dcml_any (n : Int) (h0 : -9223372036854775808 ≤ n) (h1 : n ≤ 9223372036854775807) : Dcml n := by
 have key : ∀ (m : Nat) (u : Nat), u ≤ m → (u ≤ 9223372036854775807 → Dcml u) ∧ (0 < u → u ≤ 9223372036854775808 → Dcml (-(u : Int))) := by
  intro m
  induction m with
  | zero => intro u hu; obtain rfl : u = 0 := by omega
            exact ⟨fun _ => dcml_small 0 (by omega), fun h => absurd h (by omega)⟩
  | succ m ih =>
    intro u hu
    by_cases hs : u < 10
    · exact ⟨fun _ => dcml_small u hs, fun h _ => dcml_neg u h hs⟩
    · obtain ⟨i1, i2⟩ := ih (u / 10) (by omega)
      exact ⟨fun h => dcml_step (u / 10) (u % 10) u (by omega) (by omega) (by omega) h (i1 (by omega)), fun _ h => dcml_stepN (u / 10) (u % 10) u (by omega) (by omega) (by omega) h (i2 (by omega) (by omega))⟩
 by_cases hn : 0 ≤ n
 · obtain ⟨u, rfl⟩ := Int.eq_ofNat_of_zero_le hn
   exact (key u u (Nat.le_refl _)).1 (by omega)
 · obtain ⟨u, hu⟩ := Int.eq_ofNat_of_zero_le (a := -n) (by omega)
   obtain rfl : n = -(u : Int) := by omega
   exact (key u u (Nat.le_refl _)).2 (by omega) (by omega)
theorem drewN_below (w : World) (k : Nat) : Below w.heap.size w (w.drewN k) := below_drewN (Below.refl _ _) k
theorem rdecimal_any (n : Int) (w : World) (h0 : -9223372036854775808 ≤ n) (h1 : n ≤ 9223372036854775807) :
 Calls Tryz.prog 127 #[.int .i64 n] w fun e w' => e = .returned (.string (st (Lib.itoa n))) ∧ Below w.heap.size w w' :=
 (dcml_any n h0 h1 w).mono fun _ _ ⟨he, m, hm⟩ => ⟨he, by rw [hm]; exact drewN_below w m⟩
set_option maxHeartbeats 1000000 in
set_option maxRecDepth 1000000 in
theorem rtext_any (neg : Bool) (D : Bs) (E : Int) (w : World) (hD : D.length ≤ 1099511627776) (hE : -9223372036854775808 ≤ E ∧ E ≤ 9223372036854775807) :
 Calls Tryz.prog 72 #[.agg #[.bool neg, .string (st D), .int .i64 E]] w fun e w' => e = .returned (.string (st (textM ⟨neg, D, E⟩))) ∧ Below w.heap.size w w' := by
 have hdc := fun W => rdecimal_any E W hE.1 hE.2
 have hL : (Lib.itoa E).length ≤ 1000 := Nat.le_trans (Lib.itoa_length_le _ (by omega) (by omega)) (by omega)
 generalize hR : textM ⟨neg, D, E⟩ = R
 have HR := hq hR
 clear hR
 unfold textM at HR
 have HI := hq hdc
 clear hdc
 go_enter Tryz.func72, Tryz.ntmps72
 go_wp2_with fail
 refine (rright_any neg D E _ hD hE).mono ?_
 rintro e w1 ⟨rfl, hb1⟩
 have hb := (below_alloc w (.cells #[.bool neg, .string (st D), .int .i64 E] 66)).trans (hb1.mono (by rw [World.size_alloc]; omega))
 have hW := (Whole.made w 66 #[.bool neg, .string (st D), .int .i64 E]).grow hb1
 clear hb1
 generalize Dec.right ⟨neg, D, E⟩ = B at *
 cases B with
 | false =>
   have HN := hq (HR.o.symm.trans (if_neg (by simp)))
   clear HR
   go_wp2_with fail
   go_ret
   exact ⟨by rw [HN.o]; rfl, hb⟩
 | true =>
   have HR2 := hq (HR.o.symm.trans (if_pos rfl))
   clear HR
   obtain ⟨c0, c1, c2⟩ := three_cells hW
   go_wp2_with fail
   refine (rnought_any neg D E _).mono ?_
   rintro e w2 ⟨rfl, hb1⟩
   replace hb := below_trans hb hb1
   replace hW := hW.grow hb1
   clear hb1 c0 c1 c2
   obtain ⟨c0, c1, c2⟩ := three_cells hW
   by_cases hz : Dec.mk neg D E = .zero
   · have HN := hq (HR2.o.trans (if_pos hz))
     rw [decide_eq_true hz]
     clear HR2 hz
     go_wp2_with fail
     go_ret
     exact ⟨by rw [HN.o]; rfl, hb⟩
   · have HN := hq (HR2.o.trans (if_neg hz))
     rw [decide_eq_false hz]
     clear HR2 hz
     have hz2 : (st (Lib.itoa E)).size ≤ 1000 := by rw [st_size]; exact hL
     cases neg with
     | true =>
       by_cases he : E = 0
       · have he2 : (E != 0) = false := by simp [he]
         have HN2 : Hq (R = 45 :: D) := hq (by rw [HN.o]; simp [he])
         clear HN he HI
         go_wp2_with fail
         go_ret
         exact ⟨by rw [HN2.o]; exact congrArg (fun x => Ending.returned (.string x)) (cat_st [45] D), hb⟩
       · have he2 : (E != 0) = true := bne_iff_ne.2 he
         have HN2 : Hq (R = ((45 :: D) ++ [101]) ++ Lib.itoa E) := hq (by rw [HN.o]; simp [he])
         clear HN he
         go_wp2_with fail
         refine (HI.o _).mono ?_
         rintro e w3 ⟨rfl, hb2⟩
         replace hb := below_trans hb hb2
         clear hb2
         go_wp2_with fail
         go_ret
         exact ⟨by rw [HN2.o]; exact congrArg (fun x => Ending.returned (.string x)) (show ((st [45] ++ st D) ++ st [101]) ++ st (Lib.itoa E) = st (((45 :: D) ++ [101]) ++ Lib.itoa E) by rw [cat_st, cat_st, cat_st]; rfl), hb⟩
     | false =>
       by_cases he : E = 0
       · have he2 : (E != 0) = false := by simp [he]
         have HN2 : Hq (R = D) := hq (by rw [HN.o]; simp [he])
         clear HN he HI
         go_wp2_with fail
         go_ret
         exact ⟨by rw [HN2.o]; rfl, hb⟩
       · have he2 : (E != 0) = true := bne_iff_ne.2 he
         have HN2 : Hq (R = (D ++ [101]) ++ Lib.itoa E) := hq (by rw [HN.o]; simp [he])
         clear HN he
         go_wp2_with fail
         refine (HI.o _).mono ?_
         rintro e w3 ⟨rfl, hb2⟩
         replace hb := below_trans hb hb2
         clear hb2
         go_wp2_with fail
         go_ret
         exact ⟨by rw [HN2.o]; exact congrArg (fun x => Ending.returned (.string x)) (show (st D ++ st [101]) ++ st (Lib.itoa E) = st ((D ++ [101]) ++ Lib.itoa E) by rw [cat_st, cat_st]), hb⟩
def Trio (w : World) (g h k : Nat) (W : World) : Prop :=
 Below w.heap.size w W ∧ Whole W g 66 #[.bool false, .string (st [49, 50, 53]), .int .i64 0] ∧ Whole W h 66 #[.bool false, .string (st []), .int .i64 0] ∧ Whole W k 66 #[.bool false, .string (st [49]), .int .i64 2]
theorem Trio.grow {w : World} {g h k : Nat} {W W' : World} (t : Trio w g h k W) (hb : Below W.heap.size W W') : Trio w g h k W' := ⟨below_trans t.1 hb, t.2.1.grow hb, t.2.2.1.grow hb, t.2.2.2.grow hb⟩
theorem Trio.drew {w : World} {g h k : Nat} {W : World} (t : Trio w g h k W) : Trio w g h k W.drew := ⟨t.1.drew, t.2.1, t.2.2.1, t.2.2.2⟩
def TrioCells (g h k : Nat) (W : World) : Prop :=
 W.cell? ⟨g, 0, none⟩ = some (.bool false) ∧ W.cell? ⟨g, 1, none⟩ = some (.string (st [49, 50, 53])) ∧ W.cell? ⟨g, 2, none⟩ = some (.int .i64 0) ∧
 W.cell? ⟨h, 0, none⟩ = some (.bool false) ∧ W.cell? ⟨h, 1, none⟩ = some (.string (st [])) ∧ W.cell? ⟨h, 2, none⟩ = some (.int .i64 0) ∧
 W.cell? ⟨k, 0, none⟩ = some (.bool false) ∧ W.cell? ⟨k, 1, none⟩ = some (.string (st [49])) ∧ W.cell? ⟨k, 2, none⟩ = some (.int .i64 2)
theorem Trio.cells {w : World} {g h k : Nat} {W : World} (t : Trio w g h k W) : TrioCells g h k W := by
 obtain ⟨a0, a1, a2⟩ := three_cells t.2.1
 obtain ⟨b0, b1, b2⟩ := three_cells t.2.2.1
 obtain ⟨c0, c1, c2⟩ := three_cells t.2.2.2
 exact ⟨a0, a1, a2, b0, b1, b2, c0, c1, c2⟩
def ErrAt (w : World) : Prop := 5 < w.heap.size ∧ ∃ te pe, w.cell? ⟨5, 0, none⟩ = some (.iface te pe)
theorem ErrAt.grow {w W : World} (h : ErrAt w) (hb : Below w.heap.size w W) : ErrAt W := by
 obtain ⟨h1, te, pe, h2⟩ := h
 exact ⟨Nat.lt_of_lt_of_le h1 hb.size, te, pe, (hb.cell (p := ⟨5, 0, none⟩) h1).trans h2⟩
def One (w : World) (na : Bool) (DA : Bs) (EA : Int) (W : World) : Prop :=
 Below w.heap.size w W ∧ Whole W w.heap.size 66 #[.bool na, .string (st DA), .int .i64 EA]
theorem One.grow {w : World} {na : Bool} {DA : Bs} {EA : Int} {W W' : World} (h : One w na DA EA W) (hb : Below W.heap.size W W') : One w na DA EA W' := ⟨below_trans h.1 hb, h.2.grow hb⟩
theorem One.drew {w : World} {na : Bool} {DA : Bs} {EA : Int} {W : World} (h : One w na DA EA W) : One w na DA EA W.drew := ⟨h.1.drew, h.2⟩
theorem One.cells {w : World} {na : Bool} {DA : Bs} {EA : Int} {W : World} (h : One w na DA EA W) :
 W.cell? ⟨w.heap.size, 0, none⟩ = some (.bool na) ∧ W.cell? ⟨w.heap.size, 1, none⟩ = some (.string (st DA)) ∧ W.cell? ⟨w.heap.size, 2, none⟩ = some (.int .i64 EA) := three_cells h.2
def IntPost (r : Int × Bool) (w : World) (e : Ending) (w' : World) : Prop := e = .returned (.tuple #[.int .i64 r.1, .bool r.2]) ∧ Below w.heap.size w w'
theorem IntPost.mk {r : Int × Bool} {a : Int} {b : Bool} {w w' : World} (h : r = (a, b)) (hb : Below w.heap.size w w') : IntPost r w (.returned (.tuple #[.int .i64 a, .bool b])) w' := ⟨by rw [h], hb⟩
theorem below_or {w w1 W : World} {t : ByteArray} {k : TypeId} (h : Below w.heap.size w W) (hw : w1 = W ∨ w1 = Lib.bytesWorld W k t) : Below w.heap.size w w1 := by
 rcases hw with h1 | h1
 · rw [h1]; exact h
 · rw [h1]; exact h.trans ((Lib.bytesWorld_below W k t).mono h.size)
def PiPost (r : Int × Bool) (w : World) (e : Ending) (w' : World) : Prop :=
 Below w.heap.size w w' ∧ ((r.2 = true ∧ e = .returned (.tuple #[.int .i64 r.1, .nilIface])) ∨ (r.2 = false ∧ ∃ v N, e = .returned (.tuple #[.int .i64 v, .iface 252 (.pointer (some ⟨N, 0, none⟩))])))
end Go.Proofs.YtnlkokgekjlmmaaGreatDoor
