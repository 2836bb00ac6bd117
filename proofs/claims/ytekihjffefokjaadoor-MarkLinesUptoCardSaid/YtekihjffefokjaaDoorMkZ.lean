/-
  THE WALK OF THE LAW MarkLines.
-/
import Derived.Test.YtekihjffefokjaaDoorMkX
namespace Go.Proofs.YtekihjffefokjaaDoor
open Go.RowKit

def sg4 : Nat → UInt8
  | 0 => 60
  | 1 => 124
  | 2 => 61
  | _ => 62
theorem sg4_sgn : ∀ k, isSgn (sg4 k) = true
  | 0 => rfl
  | 1 => rfl
  | 2 => rfl
  | _ + 3 => rfl
def f4 (h : Nat → Nat) : Array Value := #[.int .i64 (h 0 : Int), .int .i64 (h 1 : Int), .int .i64 (h 2 : Int), .int .i64 (h 3 : Int)]
def oneL (c : UInt8) (n : Nat) (cur : Bs) : Nat := if cur = List.replicate n c then 1 else 0
theorem oneL_le (c : UInt8) (n : Nat) (cur : Bs) : oneL c n cur ≤ 1 := by unfold oneL; split <;> omega
def curL (T : Bs) (f i : Nat) : Bs := (T.drop f).take (i - f)
def remL (c : UInt8) (n : Nat) (T : Bs) (f i : Nat) : Nat := if i ≤ T.length then cntL c n (curL T f i) (T.drop i) else 0
section
variable {c : UInt8} {n : Nat} {T : Bs} {f i : Nat}
theorem curL_step (h : i < T.length) (hf : f ≤ i) : curL T f (i + 1) = curL T f i ++ [T[i]] := by
  unfold curL
  have h1 : i - f < (T.drop f).length := by rw [List.length_drop]; omega
  rw [show i + 1 - f = (i - f) + 1 by omega, List.take_succ_eq_append_getElem h1, List.getElem_drop]
  congr 2
  exact getElem_congr_idx (by omega)
theorem curL_self : curL T i i = [] := by unfold curL; rw [Nat.sub_self, List.take_zero]
theorem curL_len (h : i ≤ T.length) (hf : f ≤ i) : (curL T f i).length = i - f := by
  unfold curL
  rw [List.length_take, List.length_drop]
  omega
theorem remL_go (h : i < T.length) (hf : f ≤ i) (hb : T[i] ≠ 10) : remL c n T f i = remL c n T f (i + 1) := by
  unfold remL
  rw [if_pos (Nat.le_of_lt h), if_pos (show i + 1 ≤ T.length from h), List.drop_eq_getElem_cons h, cntL, if_neg hb, curL_step h hf]
theorem remL_line (h : i < T.length) (hb : T[i] = 10) : remL c n T f i = oneL c n (curL T f i) + remL c n T (i + 1) (i + 1) := by
  unfold remL
  rw [if_pos (Nat.le_of_lt h), if_pos (show i + 1 ≤ T.length from h), List.drop_eq_getElem_cons h, cntL, if_pos hb, curL_self]
  rfl
theorem remL_end (h : i = T.length) : remL c n T f i = oneL c n (curL T f i) + remL c n T (i + 1) (i + 1) := by
  unfold remL
  rw [if_pos (by omega), if_neg (by omega), List.drop_eq_nil_of_le (by omega), cntL]
  rfl
theorem remL_over (h : T.length < i) : remL c n T f i = 0 := by
  unfold remL
  rw [if_neg (by omega)]
/-- so far each byte of the line is the sign, and the line is long enough -/
def allL (c : UInt8) (n : Nat) (T : Bs) (f i j : Nat) : Bool := decide (((i : Int) - (f : Int)) = (n : Int)) && (curL T f j).all (· == c)
theorem allL_0 : allL c n T f i f = decide (((i : Int) - (f : Int)) = (n : Int)) := by
  unfold allL
  rw [curL_self]
  exact Bool.and_true _
theorem allL_step {j : Nat} (h : j < T.length) (hf : f ≤ j) : allL c n T f i (j + 1) = (allL c n T f i j && (T[j] == c)) := by
  unfold allL
  rw [curL_step h hf, List.all_append, List.all_cons, List.all_nil, Bool.and_true, Bool.and_assoc]
theorem allL_end (h : i ≤ T.length) (hf : f ≤ i) : oneL c n (curL T f i) = if allL c n T f i i = true then 1 else 0 := by
  unfold oneL allL
  have hl := curL_len h hf
  congr 1
  rw [Bool.and_eq_true, decide_eq_true_iff, List.all_eq_true, List.eq_replicate_iff, hl]
  simp only [beq_iff_eq]
  refine propext ⟨fun h => ⟨by omega, h.2⟩, fun h => ⟨by omega, h.2⟩⟩
end
theorem byte_eq {b c : UInt8} : (b == c) = ((b.toNat : Int) == (c.toNat : Int)) := by
  rw [Bool.eq_iff_iff, beq_iff_eq, beq_iff_eq, ← UInt8.toNat_inj]
  omega
/-- the first k of four rows have been told of this line -/
def toldL (n : Nat) (cur : Bs) (c : Nat → Nat) (k : Nat) : Nat → Nat := fun j => c j + if j < k then oneL (sg4 j) n cur else 0

theorem told_same {n : Nat} {cur : Bs} {c : Nat → Nat} {k : Nat} (h4 : k < 4) (h : oneL (sg4 k) n cur = 0) : f4 (toldL n cur c (k + 1)) = f4 (toldL n cur c k) := by
  have hj : ∀ j, toldL n cur c (k + 1) j = toldL n cur c k j := fun j => by
    unfold toldL
    by_cases hjk : j = k
    · subst hjk; rw [if_pos (Nat.lt_succ_self _), if_neg (Nat.lt_irrefl _), h]
    · by_cases h2 : j < k
      · rw [if_pos h2, if_pos (by omega)]
      · rw [if_neg h2, if_neg (by omega)]
  unfold f4
  rw [hj, hj, hj, hj]
theorem told_put {n : Nat} {cur : Bs} {c : Nat → Nat} {k : Nat} (h : oneL (sg4 k) n cur = 1) : ∀ j, toldL n cur c (k + 1) j = if j = k then c k + 1 else toldL n cur c k j := fun j => by
  unfold toldL
  by_cases hjk : j = k
  · subst hjk; rw [if_pos (Nat.lt_succ_self _), if_pos rfl, h]
  · rw [if_neg hjk]
    by_cases h2 : j < k
    · rw [if_pos h2, if_pos (by omega)]
    · rw [if_neg h2, if_neg (by omega)]
theorem told_0 {n : Nat} {cur : Bs} {c : Nat → Nat} (h : oneL (sg4 0) n cur = 1) : f4 (toldL n cur c 1) = (f4 (toldL n cur c 0)).setIfInBounds 0 (.int .i64 ((c 0 : Int) + 1)) := by
  unfold f4
  rw [told_put h 0, told_put h 1, told_put h 2, told_put h 3]
  simp
theorem told_1 {n : Nat} {cur : Bs} {c : Nat → Nat} (h : oneL (sg4 1) n cur = 1) : f4 (toldL n cur c 2) = (f4 (toldL n cur c 1)).setIfInBounds 1 (.int .i64 ((c 1 : Int) + 1)) := by
  unfold f4
  rw [told_put h 0, told_put h 1, told_put h 2, told_put h 3]
  simp
theorem told_2 {n : Nat} {cur : Bs} {c : Nat → Nat} (h : oneL (sg4 2) n cur = 1) : f4 (toldL n cur c 3) = (f4 (toldL n cur c 2)).setIfInBounds 2 (.int .i64 ((c 2 : Int) + 1)) := by
  unfold f4
  rw [told_put h 0, told_put h 1, told_put h 2, told_put h 3]
  simp
theorem told_3 {n : Nat} {cur : Bs} {c : Nat → Nat} (h : oneL (sg4 3) n cur = 1) : f4 (toldL n cur c 4) = (f4 (toldL n cur c 3)).setIfInBounds 3 (.int .i64 ((c 3 : Int) + 1)) := by
  unfold f4
  rw [told_put h 0, told_put h 1, told_put h 2, told_put h 3]
  simp

set_option maxHeartbeats 4000000 in
set_option maxRecDepth 1000000 in
theorem markLines_any (o : Option Addr) (cap : Nat) (l : List MPart) (w : World) (h : MkT w) (hl : l.length ≤ cap) (hc : cap ≤ maxLen) (hin : PartsIn w o l) (hs : ∀ x ∈ l, Lens 1048576 x) :
    Calls Tryd.prog 11 #[.slice o l.length cap] w fun e w' => e = .returned (.bool true) ∧ Below w.heap.size w w' := by
  have HT := hq h
  have HIN := hq hin
  have HS := hq hs
  have hc0 := hc
  unfold maxLen at hc
  clear h hin hs
  go_enter Tryd.func11, Tryd.ntmps11
  go_wp2_with fail
  refine (msmall_any w HT.o).mono ?_
  rintro e w1 ⟨rfl, hb1⟩
  have HB1 := hq hb1
  have HIN1 := hq (HIN.o.grow hb1)
  clear hb1
  go_wp2_with fail
  refine (mfew_any o cap l w1 hl hc0 HIN1.o (fun x hx => lens_mono (by decide) (HS.o x hx))).mono ?_
  rintro e w2 ⟨rfl, hb2⟩
  have HB2 := hq (below_trans HB1.o hb2)
  clear hb2 HB1 HIN1
  go_wp2_with fail
  refine (encode_few 1048576 o cap l w2 (HT.o.grow HB2.o) hl hc0 (HIN.o.grow HB2.o) (by decide) HS.o).mono ?_
  rintro e w3 ⟨rfl, hb3⟩
  have HB3 := hq (below_trans HB2.o hb3)
  clear hb3 HB2 HS
  cases hF : fewM l with
  | false =>
    clear HIN
    go_wp2_with fail
    all_goals
      go_ret
      exact ⟨rfl, HB3.o⟩
  | true =>
    obtain ⟨h60, hln⟩ := few_in hF
    have HLN := hq hln
    have hTL := enc_short hln h60
    clear hF hln
    cases hr : rightB l with
    | false =>
      simp only [Bool.false_eq_true, if_false]
      clear HIN HLN
      go_wp2_with fail
      all_goals
        go_ret
        exact ⟨rfl, HB3.o⟩
    | true =>
      simp only [if_true]
      have HR := hq hr
      clear hr
      have HCN : Hq (∀ k, 0 < nH l → cntL (sg4 k) (widthM l) [] (encM l) = nH l) := hq (fun k hk => cnt_all (sg4 k) (sg4_sgn k) l ⟨(rightB_iff l).1 HR.o, by rw [anyH_nH]; exact decide_eq_true hk⟩)
      have hw7 := widthM_7 l
      have hwl : widthM l ≤ 1025 := widthM_le (by decide) HLN.o
      go_wp2_with fail
      refine (width_any o cap l w3 (HT.o.grow HB3.o).hm hl hc0 (HIN.o.grow HB3.o) (fun x hx => lens_mono (by decide) (HLN.o x hx))).mono ?_
      rintro e w4 ⟨rfl, hb4⟩
      have HB4 := hq (below_trans HB3.o hb4)
      clear hb4 HB3 HT HLN HR
      generalize encM l = T at *
      generalize widthM l = n at *
      go_wp2_with fail
      go_loopw [8, 9] (fun c i wr => ∃ k m : Nat, k ≤ l.length ∧ i = .int .i64 (k : Int) ∧ c = .int .i64 (m : Int) ∧ Hq (nH l = m + nH (l.drop k)) ∧ m ≤ k ∧ Hq (Below w.heap.size w wr)) (fun _ i _ => l.length - (intOf i).toNat)
      case atStart => exact ⟨0, 0, Nat.zero_le _, rfl, rfl, hq (by simp), Nat.le_refl _, HB4⟩
      case round =>
        obtain ⟨k, m, hk, rfl, rfl, hnh, hnk, hb⟩ := hrel
        clear HB4
        by_cases h : k < l.length
        · obtain ⟨b, f, rfl, hp⟩ := HIN.o k h
          obtain ⟨c0, c1, c2, c3, c4⟩ := hp.grow hb.o
          have HN : Hq (nH l = (m + (if l[k].hunk = true then 1 else 0)) + nH (l.drop (k + 1))) := hq (by rw [hnh.o, nH_step h, Nat.add_assoc])
          clear hp HIN hnh HCN
          generalize l[k] = x at *
          cases hx : x.hunk with
          | true =>
            rw [hx] at c0 HN
            simp only [if_true] at HN
            go_wp2_with fail
            go_roundw
            case rel => exact ⟨k + 1, m + 1, h, int_eq (by omega), int_eq (by omega), HN, by omega, hb⟩
            case measure => simp [intOf]; omega
          | false =>
            rw [hx] at c0 HN
            simp only [Bool.false_eq_true, if_false, Nat.add_zero] at HN
            go_wp2_with fail
            go_roundw
            case rel => exact ⟨k + 1, m, h, int_eq (by omega), rfl, HN, by omega, hb⟩
            case measure => simp [intOf]; omega
        · have h' : ¬ (k : Int) < (l.length : Int) := by omega
          have hNH : nH l = m := by rw [hnh.o, nH_end h]; rfl
          rw [hNH] at HCN
          clear hnh h hNH HIN
          have hx0 := Whole.made wr 55 (f4 fun _ => 0)
          have hbx := hb.o.alloc hb.o.size (.cells (f4 fun _ => 0) 55)
          have HX0 := hq hx0
          have HBX := hq hbx
          have hgw := hb.o.size
          clear hb hx0 hbx
          generalize hgg : wr.heap.size = g at *
          go_wp2_with fail
          go_loopw [12, 13] (fun fr iv wo => ∃ (f i : Nat) (c : Nat → Nat), fr = .int .i64 (f : Int) ∧ iv = .int .i64 (i : Int) ∧ f ≤ i ∧ i ≤ T.length + 1 ∧ (∀ k, c k ≤ i) ∧ Hq (Whole wo g 55 (f4 c)) ∧ Hq (Below w.heap.size w wo) ∧ Hq (∀ k, c k + (if m = 0 then 0 else remL (sg4 k) n T f i) = m ∨ 4 ≤ k)) (fun _ i _ => T.length + 1 - (intOf i).toNat)
          case atStart =>
            refine ⟨0, 0, fun _ => 0, rfl, rfl, Nat.le_refl _, Nat.zero_le _, fun _ => Nat.zero_le _, HX0, HBX, hq (fun k => .inl ?_)⟩
            show 0 + _ = m
            split
            · omega
            · unfold remL
              rw [if_pos (Nat.zero_le _), curL_self, List.drop_zero, HCN.o k (by omega)]
              omega
          case round =>
            obtain ⟨f, i, c, rfl, rfl, hfi, hil, hcb, hx, hb2, hrm⟩ := hrel
            obtain ⟨wo, hwo⟩ : ∃ wo : World, wo = wr := ⟨_, rfl⟩
            rw [← hwo] at hx hb2 ⊢
            clear hwo HX0 HBX HCN
            by_cases hm0 : m = 0 ∨ T.length < i
            · have hcm : ∀ k, k < 4 → c k = m := fun k hk => by
                have := (hrm.o k).resolve_right (by omega)
                split at this
                · omega
                · rw [remL_over (hm0.resolve_left (by assumption))] at this; omega
              have y0 : wo.cell? ⟨g, 0, none⟩ = some (.int .i64 (m : Int)) := by rw [hx.o.at_ 0, ← hcm 0 (by omega)]; rfl
              have y1 : wo.cell? ⟨g, 1, none⟩ = some (.int .i64 (m : Int)) := by rw [hx.o.at_ 1, ← hcm 1 (by omega)]; rfl
              have y2 : wo.cell? ⟨g, 2, none⟩ = some (.int .i64 (m : Int)) := by rw [hx.o.at_ 2, ← hcm 2 (by omega)]; rfl
              have y3 : wo.cell? ⟨g, 3, none⟩ = some (.int .i64 (m : Int)) := by rw [hx.o.at_ 3, ← hcm 3 (by omega)]; rfl
              have hno : (decide ((i : Int) ≤ (T.length : Int)) && decide ((0 : Int) < (m : Int))) = false := by
                rw [Bool.and_eq_false_iff, decide_eq_false_iff_not, decide_eq_false_iff_not]
                omega
              have h7n : (7 : Int) ≤ (n : Int) := by omega
              clear hcm hrm hx
              go_upto_region 17 with fail
              go_cut [54] from 47 to 105 (fun c wx => c = .bool (decide ((i : Int) ≤ (T.length : Int)) && decide ((0 : Int) < (m : Int))) ∧ wx = wo)
              case first =>
                have HNO := hq hno
                clear hno
                by_cases hiT : (i : Int) ≤ (T.length : Int)
                · have hd := HNO.o
                  rw [decide_eq_true hiT, Bool.true_and] at hd
                  have hm0' : ¬ (0 : Int) < (m : Int) := of_decide_eq_false hd
                  go_wp2_with fail
                  go_meet
                  exact ⟨by rw [HNO.o]; first | rfl | (congr 1; exact decide_eq_false (by omega)), rfl⟩
                · go_wp2_with fail
                  go_meet
                  exact ⟨by rw [HNO.o], rfl⟩
              case rest =>
                obtain ⟨rfl, rfl⟩ := hcut
                rw [hno]
                go_wp2_with fail
                go_ret
                exact ⟨rfl, hb2.o⟩
            · have hm1 : m ≠ 0 := fun h => hm0 (.inl h)
              have hiT : i ≤ T.length := by omega
              have hi1 : (i : Int) ≤ (T.length : Int) := by omega
              have hmp : (0 : Int) < (m : Int) := by omega
              have HRM : Hq (∀ k, c k + remL (sg4 k) n T f i = m ∨ 4 ≤ k) := hq (fun k => by have := hrm.o k; rwa [if_neg hm1] at this)
              clear hrm hm0
              go_upto_region 19 with fail
              go_cut [66] from 47 to 105 (fun c wx => c = .bool (decide (i < T.length) && (T.getD i 10 != 10)) ∧ wx = wo)
              case first =>
                by_cases hlt : i < T.length
                · have hz : i < (st T).size := by rw [st_size]; exact hlt
                  have hE : Hq ((T.getD i 10 != 10) = ((((st T)[i]'hz).toNat : Int) != 10)) := hq (by
                    have h1 : T.getD i 10 = T[i] := by simp [List.getD, hlt]
                    rw [h1]
                    show (!(T[i] == 10)) = _
                    rw [byte_eq]
                    rfl)
                  have hD : Hq (decide (i < T.length) = true) := hq (decide_eq_true hlt)
                  clear HRM
                  go_wp2_with fail
                  go_meet
                  exact ⟨by rw [hD.o, hE.o]; rfl, rfl⟩
                · have hD : Hq (decide (i < T.length) = false) := hq (decide_eq_false hlt)
                  clear HRM
                  go_wp2_with fail
                  go_meet
                  exact ⟨by rw [hD.o]; rfl, rfl⟩
              case rest =>
                obtain ⟨rfl, rfl⟩ := hcut
                cases hB : (decide (i < T.length) && (T.getD i 10 != 10)) with
                | true =>
                  rw [Bool.and_eq_true, decide_eq_true_iff, bne_iff_ne] at hB
                  obtain ⟨hlt, h10⟩ := hB
                  have h10' : T[i] ≠ 10 := by have h1 : T.getD i 10 = T[i] := by simp [List.getD, hlt]
                                              rwa [h1] at h10
                  have HN : Hq (∀ k, c k + (if m = 0 then 0 else remL (sg4 k) n T f (i + 1)) = m ∨ 4 ≤ k) := hq (fun k => by rw [if_neg hm1, ← remL_go hlt hfi h10']; exact HRM.o k)
                  clear HRM h10 h10'
                  go_wp2_with fail
                  go_roundw
                  case rel => exact ⟨f, i + 1, c, rfl, int_eq (by omega), by omega, by omega, fun k => Nat.le_succ_of_le (hcb k), hx, hb2, HN⟩
                  case measure => simp [intOf]; omega
                | false =>
                  have HON : Hq (∀ k, remL (sg4 k) n T f i = oneL (sg4 k) n (curL T f i) + remL (sg4 k) n T (i + 1) (i + 1)) := hq (fun k => by
                    by_cases hlt : i < T.length
                    · refine remL_line hlt ?_
                      rw [decide_eq_true hlt, Bool.true_and] at hB
                      have h1 : T.getD i 10 = T[i] := by simp [List.getD, hlt]
                      rw [h1] at hB
                      exact by simpa using hB
                    · exact remL_end (by omega))
                  have HN : Hq (∀ k, toldL n (curL T f i) c 4 k + (if m = 0 then 0 else remL (sg4 k) n T (i + 1) (i + 1)) = m ∨ 4 ≤ k) := hq (fun k => by
                    rw [if_neg hm1]
                    by_cases hk4 : 4 ≤ k
                    · exact .inr hk4
                    · refine .inl ?_
                      have h1 := (HRM.o k).resolve_right hk4
                      have h2 := HON.o k
                      unfold toldL
                      rw [if_pos (by omega)]
                      omega)
                  have HCB : Hq (∀ k, toldL n (curL T f i) c 4 k ≤ i + 1) := hq (fun k => by
                    have h1 := hcb k
                    have h2 := oneL_le (sg4 k) n (curL T f i)
                    unfold toldL
                    split <;> omega)
                  have HF0 : Hq (f4 c = f4 (toldL n (curL T f i) c 0)) := hq rfl
                  clear HRM HON hB
                  go_wp2_with fail
                  go_loopw [14] (fun kv wk => ∃ k : Nat, k ≤ 4 ∧ kv = .int .i64 (k : Int) ∧ Hq (Whole wk g 55 (f4 (toldL n (curL T f i) c k))) ∧ Hq (Below w.heap.size w wk)) (fun kv _ => 4 - (intOf kv).toNat)
                  case atStart => exact ⟨0, by omega, rfl, hq (by rw [← HF0.o]; exact hx.o), hb2⟩
                  case round =>
                    obtain ⟨k, hk4, rfl, hxk, hbk⟩ := hrel
                    obtain ⟨wk, hwk⟩ : ∃ wk : World, wk = wr := ⟨_, rfl⟩
                    rw [← hwk] at hxk hbk ⊢
                    clear hwk hx hb2 HF0
                    have hkk : k = 0 ∨ k = 1 ∨ k = 2 ∨ k = 3 ∨ k = 4 := by omega
                    rcases hkk with rfl | rfl | rfl | rfl | rfl
                    · go_wp2_with fail
                      go_loopw [15, 16] (fun al jv wj => ∃ j : Nat, f ≤ j ∧ j ≤ i ∧ jv = .int .i64 (j : Int) ∧ al = .bool (allL (sg4 0) n T f i j) ∧ Hq (Whole wj g 55 (f4 (toldL n (curL T f i) c 0))) ∧ Hq (Below w.heap.size w wj)) (fun _ jv _ => i - (intOf jv).toNat)
                      case atStart => exact ⟨f, Nat.le_refl _, hfi, rfl, by rw [allL_0]; rfl, hxk, hbk⟩
                      case round =>
                        obtain ⟨j, hfj, hji, rfl, rfl, hxj, hbj⟩ := hrel
                        obtain ⟨wj, hwj⟩ : ∃ wj : World, wj = wr := ⟨_, rfl⟩
                        rw [← hwj] at hxj hbj ⊢
                        clear hwj hxk hbk
                        by_cases hj : j < i
                        · have hjT : j < T.length := by omega
                          have hzj : j < (st T).size := by rw [st_size]; exact hjT
                          have HAS : Hq (allL (sg4 0) n T f i (j + 1) = (allL (sg4 0) n T f i j && ((((st T)[j]'hzj).toNat : Int) == 60))) := hq (by rw [allL_step hjT hfj, byte_eq]; rfl)
                          generalize hxx : ((st T)[j]'hzj).toNat = x at HAS
                          have hy : (((st T)[j]'hzj).toNat : Int) = (x : Int) := by rw [hxx]
                          clear hxx
                          cases hal : allL (sg4 0) n T f i j with
                          | false =>
                            have HN : Hq (allL (sg4 0) n T f i (j + 1) = false) := hq (by rw [HAS.o, hal]; rfl)
                            clear HAS hal
                            go_wp2_with fail
                            go_region
                            go_wp2_with fail
                            go_roundw
                            case rel => exact ⟨j + 1, by omega, by omega, int_eq (by omega), by rw [HN.o], hq (hxj.o.grow (Below.refl _ _).drew), hq hbj.o.drew⟩
                            case measure => simp [intOf]; omega
                          | true =>
                            have HN : Hq (allL (sg4 0) n T f i (j + 1) = ((x : Int) == 60)) := hq (by rw [HAS.o, hal]; rfl)
                            clear HAS hal
                            go_wp2_with fail
                            go_region
                            go_wp2_with fail
                            go_roundw
                            case rel => exact ⟨j + 1, by omega, by omega, int_eq (by omega), by rw [HN.o]; rfl, hq (hxj.o.grow (Below.refl _ _).drew), hq hbj.o.drew⟩
                            case measure => simp [intOf]; omega
                        · obtain rfl : j = i := by omega
                          have hij : ¬ (j : Int) < (j : Int) := by omega
                          have HOE := hq (allL_end (c := (sg4 0)) (n := n) (T := T) hiT hfi)
                          have hcK := hcb 0
                          cases hal : allL (sg4 0) n T f j j with
                          | false =>
                            have HF4 : Hq (f4 (toldL n (curL T f j) c 1) = f4 (toldL n (curL T f j) c 0)) := hq (told_same (by decide) (by show oneL (sg4 0) n (curL T f j) = 0; rw [HOE.o, hal]; rfl))
                            clear HOE hal
                            go_wp2_with fail
                            go_roundw
                            case rel => exact ⟨1, by omega, rfl, hq (by rw [HF4.o]; exact hxj.o), hbj⟩
                            case measure => simp [intOf]
                          | true =>
                            have HF4 : Hq (f4 (toldL n (curL T f j) c 1) = (f4 (toldL n (curL T f j) c 0)).setIfInBounds 0 (.int .i64 ((c 0 : Int) + 1))) := hq (told_0 (by show oneL (sg4 0) n (curL T f j) = 1; rw [HOE.o, hal]; rfl))
                            have y0 : wj.cell? ⟨g, 0, none⟩ = some (.int .i64 (c 0 : Int)) := by rw [hxj.o.at_ 0]; simp [f4, toldL]
                            have y1 := hxj.o.free 0
                            clear HOE hal
                            go_wp2_with fail
                            go_roundw
                            case rel => exact ⟨1, by omega, rfl, hq (by rw [HF4.o]; exact hxj.o.put 0 _), hq (below_set hbj.o (by omega) _)⟩
                            case measure => simp [intOf]
                    · go_wp2_with fail
                      go_loopw [15, 16] (fun al jv wj => ∃ j : Nat, f ≤ j ∧ j ≤ i ∧ jv = .int .i64 (j : Int) ∧ al = .bool (allL (sg4 1) n T f i j) ∧ Hq (Whole wj g 55 (f4 (toldL n (curL T f i) c 1))) ∧ Hq (Below w.heap.size w wj)) (fun _ jv _ => i - (intOf jv).toNat)
                      case atStart => exact ⟨f, Nat.le_refl _, hfi, rfl, by rw [allL_0]; rfl, hxk, hbk⟩
                      case round =>
                        obtain ⟨j, hfj, hji, rfl, rfl, hxj, hbj⟩ := hrel
                        obtain ⟨wj, hwj⟩ : ∃ wj : World, wj = wr := ⟨_, rfl⟩
                        rw [← hwj] at hxj hbj ⊢
                        clear hwj hxk hbk
                        by_cases hj : j < i
                        · have hjT : j < T.length := by omega
                          have hzj : j < (st T).size := by rw [st_size]; exact hjT
                          have HAS : Hq (allL (sg4 1) n T f i (j + 1) = (allL (sg4 1) n T f i j && ((((st T)[j]'hzj).toNat : Int) == 124))) := hq (by rw [allL_step hjT hfj, byte_eq]; rfl)
                          generalize hxx : ((st T)[j]'hzj).toNat = x at HAS
                          have hy : (((st T)[j]'hzj).toNat : Int) = (x : Int) := by rw [hxx]
                          clear hxx
                          cases hal : allL (sg4 1) n T f i j with
                          | false =>
                            have HN : Hq (allL (sg4 1) n T f i (j + 1) = false) := hq (by rw [HAS.o, hal]; rfl)
                            clear HAS hal
                            go_wp2_with fail
                            go_region
                            go_wp2_with fail
                            go_roundw
                            case rel => exact ⟨j + 1, by omega, by omega, int_eq (by omega), by rw [HN.o], hq (hxj.o.grow (Below.refl _ _).drew), hq hbj.o.drew⟩
                            case measure => simp [intOf]; omega
                          | true =>
                            have HN : Hq (allL (sg4 1) n T f i (j + 1) = ((x : Int) == 124)) := hq (by rw [HAS.o, hal]; rfl)
                            clear HAS hal
                            go_wp2_with fail
                            go_region
                            go_wp2_with fail
                            go_roundw
                            case rel => exact ⟨j + 1, by omega, by omega, int_eq (by omega), by rw [HN.o]; rfl, hq (hxj.o.grow (Below.refl _ _).drew), hq hbj.o.drew⟩
                            case measure => simp [intOf]; omega
                        · obtain rfl : j = i := by omega
                          have hij : ¬ (j : Int) < (j : Int) := by omega
                          have HOE := hq (allL_end (c := (sg4 1)) (n := n) (T := T) hiT hfi)
                          have hcK := hcb 1
                          cases hal : allL (sg4 1) n T f j j with
                          | false =>
                            have HF4 : Hq (f4 (toldL n (curL T f j) c 2) = f4 (toldL n (curL T f j) c 1)) := hq (told_same (by decide) (by show oneL (sg4 1) n (curL T f j) = 0; rw [HOE.o, hal]; rfl))
                            clear HOE hal
                            go_wp2_with fail
                            go_roundw
                            case rel => exact ⟨2, by omega, rfl, hq (by rw [HF4.o]; exact hxj.o), hbj⟩
                            case measure => simp [intOf]
                          | true =>
                            have HF4 : Hq (f4 (toldL n (curL T f j) c 2) = (f4 (toldL n (curL T f j) c 1)).setIfInBounds 1 (.int .i64 ((c 1 : Int) + 1))) := hq (told_1 (by show oneL (sg4 1) n (curL T f j) = 1; rw [HOE.o, hal]; rfl))
                            have y0 : wj.cell? ⟨g, 1, none⟩ = some (.int .i64 (c 1 : Int)) := by rw [hxj.o.at_ 1]; simp [f4, toldL]
                            have y1 := hxj.o.free 1
                            clear HOE hal
                            go_wp2_with fail
                            go_roundw
                            case rel => exact ⟨2, by omega, rfl, hq (by rw [HF4.o]; exact hxj.o.put 1 _), hq (below_set hbj.o (by omega) _)⟩
                            case measure => simp [intOf]
                    · go_wp2_with fail
                      go_loopw [15, 16] (fun al jv wj => ∃ j : Nat, f ≤ j ∧ j ≤ i ∧ jv = .int .i64 (j : Int) ∧ al = .bool (allL (sg4 2) n T f i j) ∧ Hq (Whole wj g 55 (f4 (toldL n (curL T f i) c 2))) ∧ Hq (Below w.heap.size w wj)) (fun _ jv _ => i - (intOf jv).toNat)
                      case atStart => exact ⟨f, Nat.le_refl _, hfi, rfl, by rw [allL_0]; rfl, hxk, hbk⟩
                      case round =>
                        obtain ⟨j, hfj, hji, rfl, rfl, hxj, hbj⟩ := hrel
                        obtain ⟨wj, hwj⟩ : ∃ wj : World, wj = wr := ⟨_, rfl⟩
                        rw [← hwj] at hxj hbj ⊢
                        clear hwj hxk hbk
                        by_cases hj : j < i
                        · have hjT : j < T.length := by omega
                          have hzj : j < (st T).size := by rw [st_size]; exact hjT
                          have HAS : Hq (allL (sg4 2) n T f i (j + 1) = (allL (sg4 2) n T f i j && ((((st T)[j]'hzj).toNat : Int) == 61))) := hq (by rw [allL_step hjT hfj, byte_eq]; rfl)
                          generalize hxx : ((st T)[j]'hzj).toNat = x at HAS
                          have hy : (((st T)[j]'hzj).toNat : Int) = (x : Int) := by rw [hxx]
                          clear hxx
                          cases hal : allL (sg4 2) n T f i j with
                          | false =>
                            have HN : Hq (allL (sg4 2) n T f i (j + 1) = false) := hq (by rw [HAS.o, hal]; rfl)
                            clear HAS hal
                            go_wp2_with fail
                            go_region
                            go_wp2_with fail
                            go_roundw
                            case rel => exact ⟨j + 1, by omega, by omega, int_eq (by omega), by rw [HN.o], hq (hxj.o.grow (Below.refl _ _).drew), hq hbj.o.drew⟩
                            case measure => simp [intOf]; omega
                          | true =>
                            have HN : Hq (allL (sg4 2) n T f i (j + 1) = ((x : Int) == 61)) := hq (by rw [HAS.o, hal]; rfl)
                            clear HAS hal
                            go_wp2_with fail
                            go_region
                            go_wp2_with fail
                            go_roundw
                            case rel => exact ⟨j + 1, by omega, by omega, int_eq (by omega), by rw [HN.o]; rfl, hq (hxj.o.grow (Below.refl _ _).drew), hq hbj.o.drew⟩
                            case measure => simp [intOf]; omega
                        · obtain rfl : j = i := by omega
                          have hij : ¬ (j : Int) < (j : Int) := by omega
                          have HOE := hq (allL_end (c := (sg4 2)) (n := n) (T := T) hiT hfi)
                          have hcK := hcb 2
                          cases hal : allL (sg4 2) n T f j j with
                          | false =>
                            have HF4 : Hq (f4 (toldL n (curL T f j) c 3) = f4 (toldL n (curL T f j) c 2)) := hq (told_same (by decide) (by show oneL (sg4 2) n (curL T f j) = 0; rw [HOE.o, hal]; rfl))
                            clear HOE hal
                            go_wp2_with fail
                            go_roundw
                            case rel => exact ⟨3, by omega, rfl, hq (by rw [HF4.o]; exact hxj.o), hbj⟩
                            case measure => simp [intOf]
                          | true =>
                            have HF4 : Hq (f4 (toldL n (curL T f j) c 3) = (f4 (toldL n (curL T f j) c 2)).setIfInBounds 2 (.int .i64 ((c 2 : Int) + 1))) := hq (told_2 (by show oneL (sg4 2) n (curL T f j) = 1; rw [HOE.o, hal]; rfl))
                            have y0 : wj.cell? ⟨g, 2, none⟩ = some (.int .i64 (c 2 : Int)) := by rw [hxj.o.at_ 2]; simp [f4, toldL]
                            have y1 := hxj.o.free 2
                            clear HOE hal
                            go_wp2_with fail
                            go_roundw
                            case rel => exact ⟨3, by omega, rfl, hq (by rw [HF4.o]; exact hxj.o.put 2 _), hq (below_set hbj.o (by omega) _)⟩
                            case measure => simp [intOf]
                    · go_wp2_with fail
                      go_loopw [15, 16] (fun al jv wj => ∃ j : Nat, f ≤ j ∧ j ≤ i ∧ jv = .int .i64 (j : Int) ∧ al = .bool (allL (sg4 3) n T f i j) ∧ Hq (Whole wj g 55 (f4 (toldL n (curL T f i) c 3))) ∧ Hq (Below w.heap.size w wj)) (fun _ jv _ => i - (intOf jv).toNat)
                      case atStart => exact ⟨f, Nat.le_refl _, hfi, rfl, by rw [allL_0]; rfl, hxk, hbk⟩
                      case round =>
                        obtain ⟨j, hfj, hji, rfl, rfl, hxj, hbj⟩ := hrel
                        obtain ⟨wj, hwj⟩ : ∃ wj : World, wj = wr := ⟨_, rfl⟩
                        rw [← hwj] at hxj hbj ⊢
                        clear hwj hxk hbk
                        by_cases hj : j < i
                        · have hjT : j < T.length := by omega
                          have hzj : j < (st T).size := by rw [st_size]; exact hjT
                          have HAS : Hq (allL (sg4 3) n T f i (j + 1) = (allL (sg4 3) n T f i j && ((((st T)[j]'hzj).toNat : Int) == 62))) := hq (by rw [allL_step hjT hfj, byte_eq]; rfl)
                          generalize hxx : ((st T)[j]'hzj).toNat = x at HAS
                          have hy : (((st T)[j]'hzj).toNat : Int) = (x : Int) := by rw [hxx]
                          clear hxx
                          cases hal : allL (sg4 3) n T f i j with
                          | false =>
                            have HN : Hq (allL (sg4 3) n T f i (j + 1) = false) := hq (by rw [HAS.o, hal]; rfl)
                            clear HAS hal
                            go_wp2_with fail
                            go_region
                            go_wp2_with fail
                            go_roundw
                            case rel => exact ⟨j + 1, by omega, by omega, int_eq (by omega), by rw [HN.o], hq (hxj.o.grow (Below.refl _ _).drew), hq hbj.o.drew⟩
                            case measure => simp [intOf]; omega
                          | true =>
                            have HN : Hq (allL (sg4 3) n T f i (j + 1) = ((x : Int) == 62)) := hq (by rw [HAS.o, hal]; rfl)
                            clear HAS hal
                            go_wp2_with fail
                            go_region
                            go_wp2_with fail
                            go_roundw
                            case rel => exact ⟨j + 1, by omega, by omega, int_eq (by omega), by rw [HN.o]; rfl, hq (hxj.o.grow (Below.refl _ _).drew), hq hbj.o.drew⟩
                            case measure => simp [intOf]; omega
                        · obtain rfl : j = i := by omega
                          have hij : ¬ (j : Int) < (j : Int) := by omega
                          have HOE := hq (allL_end (c := (sg4 3)) (n := n) (T := T) hiT hfi)
                          have hcK := hcb 3
                          cases hal : allL (sg4 3) n T f j j with
                          | false =>
                            have HF4 : Hq (f4 (toldL n (curL T f j) c 4) = f4 (toldL n (curL T f j) c 3)) := hq (told_same (by decide) (by show oneL (sg4 3) n (curL T f j) = 0; rw [HOE.o, hal]; rfl))
                            clear HOE hal
                            go_wp2_with fail
                            go_roundw
                            case rel => exact ⟨4, by omega, rfl, hq (by rw [HF4.o]; exact hxj.o), hbj⟩
                            case measure => simp [intOf]
                          | true =>
                            have HF4 : Hq (f4 (toldL n (curL T f j) c 4) = (f4 (toldL n (curL T f j) c 3)).setIfInBounds 3 (.int .i64 ((c 3 : Int) + 1))) := hq (told_3 (by show oneL (sg4 3) n (curL T f j) = 1; rw [HOE.o, hal]; rfl))
                            have y0 : wj.cell? ⟨g, 3, none⟩ = some (.int .i64 (c 3 : Int)) := by rw [hxj.o.at_ 3]; simp [f4, toldL]
                            have y1 := hxj.o.free 3
                            clear HOE hal
                            go_wp2_with fail
                            go_roundw
                            case rel => exact ⟨4, by omega, rfl, hq (by rw [HF4.o]; exact hxj.o.put 3 _), hq (below_set hbj.o (by omega) _)⟩
                            case measure => simp [intOf]
                    · go_wp2_with fail
                      go_roundw
                      case rel => exact ⟨i + 1, i + 1, _, int_eq (by omega), int_eq (by omega), Nat.le_refl _, by omega, HCB.o, hxk, hbk, HN⟩
                      case measure => simp [intOf]; omega
end Go.Proofs.YtekihjffefokjaaDoor
