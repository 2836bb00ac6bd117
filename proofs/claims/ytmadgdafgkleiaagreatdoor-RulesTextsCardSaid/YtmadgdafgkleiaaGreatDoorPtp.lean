/-
  THE CELL OF bytealg.MaxLen. WALK: pointer.Text.
  WALKS: strings.SplitSeq and its iterator, of a text cut at one byte.
  WALK: pointer.Parse.
-/
import Derived.Test.YtmadgdafgkleiaaGreatDoorBas
import Derived.Test.YtmadgdafgkleiaaGreatDoorRua
import Derived.Test.YtmadgdafgkleiaaGreatDoorRun
import Derived.RangeFuncBox
import Derived.Laws.AppendOwn
import Derived.Deep.RegionHeld3
namespace Go.Proofs.YtmadgdafgkleiaaGreatDoor
open Go.RowKit
def mx (w : World) : Prop := ∃ m : Int, w.cell? ⟨0, 0, none⟩ = some (.int .i64 m)
theorem mx_of {w : World} (h : w.ShapedOpen Tryz.prog) : mx w := (fun _ : Nat => Tryz.laysM145.s1_3 w h) 48
theorem mx_lt {w : World} (h : mx w) : 0 < w.heap.size := by
  obtain ⟨m, hm⟩ := h
  by_cases hb : 0 < w.heap.size
  · exact hb
  · unfold World.cell? at hm
    rw [Array.getElem?_eq_none (by omega)] at hm
    cases hm
theorem mx_below {B : Nat} {w w' : World} (h : mx w) (hb : Below B w w') (hB : 0 < B) : mx w' := by
  obtain ⟨m, hm⟩ := h
  exact ⟨m, (hb.cell (p := ⟨0, 0, none⟩) hB).trans hm⟩
theorem mx_grow {w w' : World} (h : mx w) (hb : Below w.heap.size w w') : mx w' := mx_below h hb (mx_lt h)
theorem repl1_any (c : UInt8) (new x : Bs) (w : World) (hM : mx w) (hc : new ≠ [c]) (hn : new.length = 2) (hx : x.length ≤ 1073741824) :
    Calls Tryz.prog 48 #[.string (st x), .string ⟨#[c]⟩, .string (st new)] w fun e w' => e = .returned (.string (st (psub c new x))) ∧ Below w.heap.size w w' := by
  obtain ⟨m, hm⟩ := hM
  have hco : Lib.countB (st x) ⟨#[c]⟩ ≤ (st x).size := Lib.countB_le ⟨#[c]⟩ (Nat.le_refl 1) _ (st x) (Nat.le_refl _)
  have hz : (st new).size = 2 := by rw [st_size, hn]
  rw [st_size] at hco
  have hr := Tryz.strings_ReplaceAll (st x) ⟨#[c]⟩ (st new) m w (by rw [st_size]; omega) hm (Nat.le_refl 1) (by rw [hz, st_size]; omega)
  have e : Lib.replaceAll (st x).data.toList (⟨#[c]⟩ : ByteArray).data.toList (st new).data.toList = psub c new x := by
    rw [st_list, st_list]
    exact replaceAll_psub c new x hc
  rw [e] at hr
  exact hr
theorem repl2_any (d c : UInt8) (x : Bs) (w : World) (hM : mx w) (hx : x.length ≤ 1073741824) :
    Calls Tryz.prog 48 #[.string (st x), .string ⟨#[126, d]⟩, .string ⟨#[c]⟩] w fun e w' => e = .returned (.string (st (un2 d c x))) ∧ Below w.heap.size w w' := by
  obtain ⟨m, hm⟩ := hM
  have hco : Lib.countB (st x) ⟨#[126, d]⟩ ≤ (st x).size := Lib.countB_le ⟨#[126, d]⟩ (show 1 ≤ 2 by omega) _ (st x) (Nat.le_refl _)
  rw [st_size] at hco
  have hr := Tryz.strings_ReplaceAll (st x) ⟨#[126, d]⟩ ⟨#[c]⟩ m w (by rw [st_size]; omega) hm (show 1 ≤ 2 by omega) (by rw [st_size]; show x.length + _ * 1 ≤ _; omega)
  have e : Lib.replaceAll (st x).data.toList (⟨#[126, d]⟩ : ByteArray).data.toList (⟨#[c]⟩ : ByteArray).data.toList = un2 d c x := by
    rw [st_list]
    exact replaceAll_two d c x
  rw [e] at hr
  exact hr
def ptxM (p : List Bs) : Bs × Int := if pgoodB p = true then (ptext p, 0) else ([], 1)
def PtxPost (x : Bs × Int) (W : World) (e : Ending) (W' : World) : Prop := e = .returned (.tuple #[.string (st x.1), .int .i64 x.2]) ∧ Below W.heap.size W W'
theorem ptext_snoc (p : List Bs) (x : Bs) : ptext (p ++ [x]) = ptext p ++ 47 :: pesc x := by unfold ptext; rw [List.flatMap_append]; simp
theorem ptext_take {p : List Bs} {i : Nat} (hi : i < p.length) : ptext (p.take (i + 1)) = ptext (p.take i) ++ [47] ++ pesc p[i] := by
  rw [List.take_succ_eq_append_getElem hi, ptext_snoc, List.append_assoc]; rfl
theorem ptext_len (M : Nat) : ∀ (p : List Bs), (∀ x ∈ p, x.length ≤ M) → (ptext p).length ≤ p.length * (2 * M + 1)
  | [], _ => by simp [ptext]
  | x :: p, h => by
    have ih := ptext_len M p (fun y hy => h y (List.mem_cons_of_mem _ hy))
    have h1 := pesc_len x
    have h2 := h x List.mem_cons_self
    unfold ptext at ih ⊢
    rw [List.flatMap_cons, List.length_append, List.length_cons, List.length_cons, Nat.succ_mul]
    omega
def ShtT (l : List Bs) : Prop := ∀ x ∈ l, x.length ≤ 134217728
theorem ShtT.room {l : List Bs} (h : ShtT l) : Room l := fun x hx => by have := h x hx; unfold maxLen; omega
set_option maxHeartbeats 2000000 in
set_option maxRecDepth 1000000 in
theorem ptxt_any (p : SRow) (W : World) (hT : tabs W) (hM : mx W) (hp : p.ok W) (hm : ShtT p.l) : Calls Tryz.prog 28 #[p.v] W (PtxPost (ptxM p.l) W) := by
  have HRI := hq (pright_any p W hT hp hm.room)
  obtain ⟨o, cap, l⟩ := p
  have HPO := hq hp
  have hpc := hp.le
  have hpm := hp.cp
  have HMX := hq hM
  have HSH := hq hm
  unfold maxLen at hpm
  have HP : Hq (∀ x W', ptxM l = x → Below W.heap.size W W' → PtxPost (ptxM l) W (.returned (.tuple #[.string (st x.1), .int .i64 x.2])) W') := hq (fun x W' h1 h2 => ⟨by rw [h1], h2⟩)
  have HD : Hq (ptxM l = if pgoodB l = true then (ptext l, 0) else ([], 1)) := hq rfl
  have HG : Hq (pgoodB l = true → l.length ≤ 64) := hq (fun h => by unfold pgoodB at h; rw [Bool.and_eq_true] at h; exact of_decide_eq_true h.1)
  simp only at hpc hpm ⊢
  generalize PtxPost (ptxM l) W = PP at *
  unfold SRow.v at HRI ⊢
  simp only at HRI ⊢
  clear hp hT hM hm
  go_enter Tryz.func28, Tryz.ntmps28
  go_wp2_with fail
  refine HRI.o.mono ?_
  rintro e W1 ⟨rfl, hb1⟩
  have HB1 := hq hb1
  clear hb1 HRI
  generalize pgoodB l = good at *
  cases good with
  | false =>
    have HV := hq (HP.o ([], 1) W1 (by rw [HD.o]; rfl) HB1.o)
    clear HP HD HG
    go_wp2_with fail
    first | exact HV.o | (go_ret; exact HV.o)
  | true =>
    have h64 := HG.o rfl
    have HD2 : Hq (ptxM l = (ptext l, 0)) := hq (by rw [HD.o]; rfl)
    clear HD HG
    go_wp2_with fail
    have hbd : Bld W1.heap.size W1.heap.size [] (W1.alloc (.cells #[.pointer none, .slice none 0 0] 42)) := Lib.IsBuilderF.of (Lib.fresh_isBuilder _ _ _)
    have HBD := hq hbd
    have HB2 := hq (below_alloc W1 (.cells #[.pointer none, .slice none 0 0] 42))
    clear hbd
    go_loopg [6, 12] l.length (fun gk _ u wr => ∃ i : Nat, i + gk ≤ l.length ∧ l.length ≤ i + gk ∧ u = .int .i64 (i : Int) ∧ Hq (Bld W1.heap.size W1.heap.size (ptext (l.take i)) wr) ∧ Hq (Below W1.heap.size W1 wr))
    case atStart => exact ⟨0, by omega, by omega, rfl, HBD, HB2⟩
    case round =>
      clear HBD HB2
      obtain ⟨i, hi1, hi2, rfl, hbd, hb⟩ := hrel
      have HBW := hq (below_trans HB1.o hb.o)
      by_cases hil : i < l.length
      · have hiz : (i : Int) < (l.length : Int) := by omega
        obtain ⟨b, f, rfl, c0⟩ := strs_at HPO.o.rd HBW.o hil
        simp only at c0
        have HPT := hq (@ptext_take l i hil)
        have HLN := hq (ptext_len 134217728 (l.take i) (fun x hx => HSH.o x (List.mem_of_mem_take hx)))
        have hx := HSH.o l[i] (List.getElem_mem hil)
        have hpl := pesc_len l[i]
        have hll : (l.take i).length ≤ 64 := by rw [List.length_take]; omega
        have hpt : (ptext (l.take i)).length ≤ 64 * 268435457 := Nat.le_trans HLN.o (Nat.mul_le_mul_right _ hll)
        have HPS : Hq (psub 47 [126, 49] (psub 126 [126, 48] l[i]) = pesc l[i]) := hq rfl
        have hp1 := psub_len 126 [126, 48] (by decide) l[i]
        have hb1 := hb.o.size
        have HWB := hq (wbyte W1.heap.size W1.heap.size (ptext (l.take i)) 47 wr hbd.o (by omega) hb1)
        rw [show (((47 : UInt8).toNat : Nat) : Int) = 47 from rfl] at HWB
        generalize l[i] = x at *
        generalize ptext (l.take i) = pt at *
        clear HLN HP HD2 hbd
        go_wp2_with fail
        refine HWB.o.mono ?_
        rintro e W2 ⟨rfl, hw2, hb2, _⟩
        have HW2 := hq hw2
        have HB2 := hq (hb.o.trans hb2)
        have HB2W := hq (HB1.o.trans (HB2.o.mono HB1.o.size))
        have HR1 := hq (repl1_any 126 [126, 48] x W2 (mx_grow HMX.o HB2W.o) (by decide) rfl (by omega))
        clear HWB hw2 hb2 hb HBW c0
        go_wp2_with fail
        refine HR1.o.mono ?_
        rintro e W3 ⟨rfl, hb3⟩
        have HW3 := hq (HW2.o.below hb3)
        have HB3 := hq (below_trans HB2.o hb3)
        have HB3W := hq (HB1.o.trans (HB3.o.mono HB1.o.size))
        have HR2 := hq (repl1_any 47 [126, 49] (psub 126 [126, 48] x) W3 (mx_grow HMX.o HB3W.o) (by decide) rfl (by omega))
        rw [HPS.o] at HR2
        clear HR1 HW2 HB2 HB2W hb3
        go_wp2_with fail
        refine HR2.o.mono ?_
        rintro e W4 ⟨rfl, hb4⟩
        have HW4 := hq (HW3.o.below hb4)
        have HB4 := hq (below_trans HB3.o hb4)
        have HWS := hq (wstring W1.heap.size W1.heap.size (pt ++ [47]) (pesc x) W4 HW4.o (by rw [List.length_append, List.length_singleton]; omega) HB4.o.size)
        clear HR2 HW3 HB3 HB3W hb4 HW4
        go_wp2_with fail
        refine HWS.o.mono ?_
        rintro e W5 ⟨⟨_, rfl⟩, hw5, hb5, _⟩
        have HW5 := hq (HPT.o ▸ hw5)
        have HB5 := hq (HB4.o.trans hb5)
        clear hw5 hb5 HWS HB4
        go_wp2_with fail
        go_roundg (gk - 1)
        case measure => omega
        case rel => exact ⟨i + 1, by omega, by omega, int_eq (by omega), HW5, HB5⟩
      · have hiz : ¬ (i : Int) < (l.length : Int) := by omega
        have hw : Bld W1.heap.size W1.heap.size (ptext l) wr := by
          have := hbd.o
          rwa [List.take_of_length_le (by omega)] at this
        have HS := hq (Tryz.Builder_String_any_k W1.heap.size W1.heap.size _ wr hw hb.o.size)
        clear hw hbd
        go_wp2_with fail
        refine HS.o.mono ?_
        rintro e W6 ⟨rfl, _, h6, _⟩
        have HV := hq (HP.o (ptext l, 0) W6 HD2.o (HB1.o.trans ((hb.o.trans h6).mono HB1.o.size)))
        clear HP HD2 h6 HS hb HBW
        go_wp2_with fail
        first | exact HV.o | (go_ret; exact HV.o)
end Go.Proofs.YtmadgdafgkleiaaGreatDoor
namespace Go.Proofs.YtmadgdafgkleiaaGreatDoor
open Go.RowKit Go.Shelf
attribute [local go_sem] Oper.semAt_some
def KpS (n₀ b1 b2 b3 : Nat) (A B : World) : Prop := Below n₀ A B ∧ B.heap[b1]? = A.heap[b1]? ∧ B.heap[b2]? = A.heap[b2]? ∧ B.heap[b3]? = A.heap[b3]?
theorem below_drawnP {B : Nat} {a w : World} (h : Below B a w) (n : Nat) : Below B a (w.drewN n) := ⟨h.os, h.tape, h.output, h.size, h.block⟩
def boxLen (w : World) (B : Nat) : Nat := match w.cell? ⟨B, 0, none⟩ with
  | some (.string s) => s.size
  | _ => 0
theorem boxLen_is {w : World} {B : Nat} {t : TypeId} {r : Bs} (h : Boxed w B t (.string (st r))) : boxLen w B = r.length := by
  unfold boxLen
  rw [h.cell]
  exact st_size r
theorem abides_belowX {α : Type} {J : List α → World → Prop} {B : Nat} (h : AbidesFrom B J) : ∀ pre A C, J pre A → Below A.heap.size A C → J pre C :=
  fun pre A C hj hb => h pre A C none hj ⟨hb.os, hb.tape, hb.output, hb.size, fun k hk _ => hb.block k hk⟩ (fun r e => by cases e)
theorem indexByte_cut (c : UInt8) : ∀ l : Bs, (Lib.indexByte l c = -1 ∧ cutAt c l = [l]) ∨ ∃ i, i < l.length ∧ Lib.indexByte l c = ((i : Nat) : Int) ∧ cutAt c l = l.take i :: cutAt c (l.drop (i + 1))
  | [] => .inl ⟨rfl, rfl⟩
  | b :: r => by
    by_cases h : b = c
    · subst h
      refine .inr ⟨0, by simp, ?_, ?_⟩
      · unfold Lib.indexByte
        simp
      · rw [cutAt, if_pos rfl]; simp
    · rcases indexByte_cut c r with ⟨h1, h2⟩ | ⟨i, hi, h1, h2⟩
      · refine .inl ⟨?_, ?_⟩
        · unfold Lib.indexByte
          rw [h1]
          simp [h]
        · rw [cutAt, if_neg h, h2]
      · refine .inr ⟨i + 1, by simp; omega, ?_, ?_⟩
        · unfold Lib.indexByte
          rw [h1, if_neg (by simpa using h), if_neg (by simp <;> omega)]
          omega
        · rw [cutAt, if_neg h, h2]
          simp
theorem st_take (r : Bs) (i : Nat) : (st r).extract 0 i = st (r.take i) := by
  apply ByteArray.ext
  rw [ByteArray.data_extract]
  apply Array.toList_inj.1
  rw [Array.toList_extract]
  simp [st]
theorem st_drop (r : Bs) (i : Nat) : (st r).extract i (st r).size = st (r.drop i) := by
  apply ByteArray.ext
  rw [ByteArray.data_extract]
  apply Array.toList_inj.1
  rw [Array.toList_extract, st_size]
  simp [st]
  exact List.take_of_length_le (by rw [List.length_drop]; exact Nat.le_refl _)
set_option maxRecDepth 100000 in
set_option maxHeartbeats 2000000 in
theorem split_gives (Bn n₀ : Nat) (s : Bs) (hs : s.length < 4294967281) (w : World) (hBn : Boxed w Bn 9 (.string (st s))) (hSp : Boxed w (Bn + 1) 9 (.string ⟨#[47]⟩)) (hSv : Boxed w (Bn + 1 + 1) 3 (.int .i64 0)) (hn₀ : n₀ ≤ w.heap.size) (hnB : n₀ ≤ Bn) :
    GivesB Fence.wide 9 Tryz.prog 91 #[.pointer (some ⟨Bn + 1, 0, none⟩), .pointer (some ⟨Bn, 0, none⟩), .pointer (some ⟨Bn + 1 + 1, 0, none⟩)] (fun x : Bs => #[.string (st x)]) (KpS n₀ Bn (Bn + 1) (Bn + 1 + 1)) Bn (cutAt 47 s) w := by
  intro l J W hW hJ hF hY h0
  have hB0 : Boxed W Bn 9 (.string (st s)) := (hW.block Bn hBn.lt).trans hBn
  have hP0 : Boxed W (Bn + 1) 9 (.string ⟨#[47]⟩) := (hW.block (Bn + 1) hSp.lt).trans hSp
  have hV0 : Boxed W (Bn + 1 + 1) 3 (.int .i64 0) := (hW.block (Bn + 1 + 1) hSv.lt).trans hSv
  have hsz : n₀ ≤ W.heap.size := Nat.le_trans hn₀ hW.size
  have HJ := hq (abides_belowX hJ)
  have HF := hq hF
  have HY := hq hY
  have HB := hq hB0
  have HPB := hq hP0
  have HVB := hq hV0
  obtain ⟨LL, hLL⟩ : ∃ LL, LL = cutAt 47 s := ⟨_, rfl⟩
  have HLL : Hq (LL = [] ++ cutAt 47 s) := hq hLL
  rw [← hLL] at HY ⊢
  clear hW hJ hF hY hBn hSp hSv hn₀ hLL
  refine callsIn_of_wp Tryz.func91 rfl trivial ?_ rfl
  simp only [Tryz.ntmps91, List.size_toArray, List.length_cons, List.length_nil, Nat.reduceAdd, Nat.reduceSub, Array.replicate_succ, Array.replicate_zero, List.push_toArray, List.append_toArray, List.nil_append, List.cons_append]
  have p0 := hP0.cell
  clear hB0 hP0 hV0
  gi_wp2
  clear p0
  gi_loopw [7, 8] (fun _ _ wr => ∃ (r : Bs) (pre : List Bs), Boxed wr Bn 9 (.string (st r)) ∧ Boxed wr (Bn + 1) 9 (.string ⟨#[47]⟩) ∧ Boxed wr (Bn + 1 + 1) 3 (.int .i64 0) ∧ J pre wr ∧ Below n₀ W wr ∧ Hq (LL = pre ++ cutAt 47 r) ∧ r.length ≤ s.length) (fun _ _ wr => boxLen wr Bn)
  case atStart => exact ⟨s, [], HB.o, HPB.o, HVB.o, h0, Below.refl _ _, HLL, Nat.le_refl _⟩
  case round =>
    obtain ⟨r, pre, hbox, hbp, hbv, hj, hb, hl, hrs⟩ := hrel
    clear HLL HB HPB HVB h0
    have hc0 := hbox.cell
    have hc1 := hbp.cell
    have hc2 := hbv.cell
    have hfz := hbox.frozen
    have HBL := hq (boxLen_is hbox)
    have hws := hb.size
    have HIX := hq (fun W => Tryz.strings_Index_one (st r) 47 W)
    rw [st_list] at HIX
    rcases indexByte_cut 47 r with ⟨h1, h2⟩ | ⟨i, hi, h1, h2⟩
    · rw [h1] at HIX
      have hll : LL = pre ++ [r] := by rw [hl.o, h2]
      have HN := hq hll
      have HPR : Hq (pre ++ [r] <+: LL) := hq (by rw [hll]; exact List.prefix_refl _)
      clear hl h1 h2 hll
      gi_wp2_with (refine ⟨trivial, ?_⟩; gi_at_call 79; refine (callsIn_wide.2 (HIX.o _)).mono ?_; rintro e' w2 ⟨rfl, rfl⟩; obtain ⟨fn, tmps, assign, body, hy, hR⟩ := HY.o pre r _ hj HPR.o)
      refine hR.mono ?_
      rintro e' W3 ⟨rfl, hJ3, hk3⟩
      gi_wp2
      go_end0
      exact ⟨⟨_, rfl⟩, by rw [HN.o]; exact hJ3⟩
    · rw [h1] at HIX
      have hll : LL = (pre ++ [r.take i]) ++ cutAt 47 (r.drop (i + 1)) := by rw [hl.o, h2]; simp
      have HN := hq hll
      have HPR : Hq (pre ++ [r.take i] <+: LL) := hq (by rw [hll]; exact List.prefix_append _ _)
      have hdl : (r.drop (i + 1)).length = r.length - (i + 1) := List.length_drop ..
      have e1 : (st r).extract 0 i = st (r.take i) := st_take r i
      have e2 : (st r).extract (i + 1) r.length = st (r.drop (i + 1)) := by rw [← st_size r]; exact st_drop r (i + 1)
      have hss : (st r).size = r.length := st_size r
      have hiz : (i : Int) ≤ (r.length : Int) := by omega
      have hiz2 : (i : Int) + 1 ≤ (r.length : Int) := by omega
      clear hl h1 h2 hll
      gi_wp2_with (refine ⟨trivial, ?_⟩; gi_at_call 79; refine (callsIn_wide.2 (HIX.o _)).mono ?_; rintro e' w2 ⟨rfl, rfl⟩; obtain ⟨fn, tmps, assign, body, hy, hR⟩ := HY.o pre (r.take i) _ hj HPR.o)
      refine hR.mono ?_
      rintro e' W3 ⟨rfl, hJ3, hk3⟩
      have hb3 := hk3.2.1.trans hbox
      have hp3 := hk3.2.2.1.trans hbp
      have hv3 := hk3.2.2.2.trans hbv
      have hc0 := (show Boxed W3 Bn 9 (.string (st r)) from hb3).cell
      have hc1 := (show Boxed W3 (Bn + 1) 9 (.string ⟨#[47]⟩) from hp3).cell
      have hfz := (show Boxed W3 Bn 9 (.string (st r)) from hb3).frozen
      have hj4 := HF.o _ _ (.string (st (r.drop (i + 1)))) hJ3
      have hbx := (show Boxed W3 Bn 9 (.string (st r)) from hb3).set (.string (st (r.drop (i + 1))))
      have hbp4 := (show Boxed W3 (Bn + 1) 9 (.string ⟨#[47]⟩) from hp3).other (B' := Bn) (by omega) (.string (st (r.drop (i + 1))))
      have hbv4 := (show Boxed W3 (Bn + 1 + 1) 3 (.int .i64 0) from hv3).other (B' := Bn) (by omega) (.string (st (r.drop (i + 1))))
      gi_wp2
      go_roundw
      case rel =>
        exact ⟨r.drop (i + 1), pre ++ [r.take i], hbx, hbp4, hbv4, hj4, (hb.trans hk3.1).setCell (p := ⟨Bn, 0, none⟩) hnB _, HN, by omega⟩
      case measure =>
        rw [HBL.o, boxLen_is hbx]
        omega
theorem splitSeq_any (s sep : ByteArray) (w : World) : Calls Tryz.prog 80 #[.string s, .string sep, .int .i64 0] w fun e w' => e = .returned (.func (.func 91) #[] #[.pointer (some ⟨w.heap.size + 1, 0, none⟩), .pointer (some ⟨w.heap.size, 0, none⟩), .pointer (some ⟨w.heap.size + 1 + 1, 0, none⟩)]) ∧ w' = ((w.alloc (.cells #[.string s] 9)).alloc (.cells #[.string sep] 9)).alloc (.cells #[.int .i64 0] 3) := by
  have hmf : ∀ fn first cap w, (Instr.makeFunc fn first cap).run Tryz.prog w = .ok (.func fn first cap) w := fun _ _ _ _ => rfl
  go_enter Tryz.func80, Tryz.ntmps80
  go_wp2_with fail
  go_ret
  exact ⟨rfl, rfl⟩
theorem SplitSeq_any (s sep : ByteArray) (w : World) : Calls Tryz.prog 61 #[.string s, .string sep] w fun e w' => e = .returned (.func (.func 91) #[] #[.pointer (some ⟨w.heap.size + 1, 0, none⟩), .pointer (some ⟨w.heap.size, 0, none⟩), .pointer (some ⟨w.heap.size + 1 + 1, 0, none⟩)]) ∧ w' = ((w.alloc (.cells #[.string s] 9)).alloc (.cells #[.string sep] 9)).alloc (.cells #[.int .i64 0] 3) := by
  have HC := hq (splitSeq_any s sep w)
  go_enter Tryz.func61, Tryz.ntmps61
  go_wp2_with fail
  refine HC.o.mono ?_
  rintro e w' ⟨rfl, rfl⟩
  go_wp2_with fail
  go_ret
  exact ⟨rfl, rfl⟩
end Go.Proofs.YtmadgdafgkleiaaGreatDoor
namespace Go.Proofs.YtmadgdafgkleiaaGreatDoor
open Go.RowKit Go.Shelf
attribute [local go_sem] Oper.semAt_some
def hd01 (b : Bs) : Bool := Lib.hasPrefix b [48] || Lib.hasPrefix b [49]
theorem til_idx : ∀ r : Bs, (Lib.indexByte r 126 = -1 ∧ tildeOk r = true) ∨ ∃ i, i < r.length ∧ Lib.indexByte r 126 = ((i : Nat) : Int) ∧ tildeOk r = (hd01 (r.drop (i + 1)) && tildeOk (r.drop (i + 1)))
  | [] => .inl ⟨rfl, rfl⟩
  | b :: r => by
    by_cases h : b = 126
    · subst h
      refine .inr ⟨0, by simp, by unfold Lib.indexByte; simp, ?_⟩
      simp only [Nat.zero_add, List.drop_succ_cons, List.drop_zero]
      cases r with
      | nil => rfl
      | cons c r =>
        rw [tildeOk]
        unfold hd01 Lib.hasPrefix
        simp only [List.isPrefixOf, Bool.and_true]
        have e1 : ((48 : UInt8) == c) = (c == 48) := Bool.beq_comm
        have e2 : ((49 : UInt8) == c) = (c == 49) := Bool.beq_comm
        rw [e1, e2]
        simp
    · rw [tildeOk_skip h]
      rcases til_idx r with ⟨h1, h2⟩ | ⟨i, hi, h1, h2⟩
      · refine .inl ⟨?_, h2⟩
        unfold Lib.indexByte
        rw [h1]
        simp [h]
      · refine .inr ⟨i + 1, by simp; omega, ?_, by rw [h2]; rfl⟩
        unfold Lib.indexByte
        rw [h1, if_neg (by simpa using h), if_neg (by simp <;> omega)]
        omega
theorem til_cut (r : Bs) : (Lib.cut r [126] = (r, [], false) ∧ tildeOk r = true) ∨ ∃ a b, Lib.cut r [126] = (a, b, true) ∧ tildeOk r = (hd01 b && tildeOk b) ∧ b.length < r.length := by
  unfold Lib.cut
  rw [Lib.index_one]
  rcases til_idx r with ⟨h1, h2⟩ | ⟨i, hi, h1, h2⟩
  · rw [h1]; exact .inl ⟨rfl, h2⟩
  · rw [h1]
    refine .inr ⟨r.take i, r.drop (i + 1), ?_, h2, by rw [List.length_drop]; omega⟩
    rw [if_pos (by omega)]
    rfl
theorem cutAt_len (c : UInt8) : ∀ l : Bs, (cutAt c l).length ≤ l.length + 1
  | [] => by simp [cutAt]
  | b :: r => by
    have ih := cutAt_len c r
    unfold cutAt
    split
    · simp; omega
    · split
      · simp
      · rename_i h; rw [h] at ih; simp at ih ⊢; omega
theorem cutAt_mem (c : UInt8) : ∀ (l : Bs), ∀ x ∈ cutAt c l, x.length ≤ l.length
  | [], x, h => by simp [cutAt] at h; subst h; simp
  | b :: r, x, h => by
    have ih := cutAt_mem c r
    unfold cutAt at h
    split at h
    · rcases List.mem_cons.1 h with h | h
      · subst h; simp
      · have := ih x h; simp; omega
    · split at h
      · simp at h; subst h; simp
      · rename_i y ys hc
        rcases List.mem_cons.1 h with h | h
        · subst h
          have := ih y (by rw [hc]; exact List.mem_cons_self)
          simp; omega
        · have := ih x (by rw [hc]; exact List.mem_cons_of_mem _ h)
          simp; omega
def pparseM (s : Bs) : List Bs × Int := if (valid (st s)).2 = false ∨ (s ≠ [] ∧ s.head? ≠ some 47) then ([], 2) else if tildeOk s = false then ([], 2) else if 64 < s.count 47 then ([], 3) else if s = [] then ([], 0) else ((cutAt 47 (s.drop 1)).map unesc, 0)
def strV (l : List Bs) : List Value := l.map fun x => Value.string (st x)
def PpPost (x : List Bs × Int) (W : World) (e : Ending) (W' : World) : Prop := ∃ o c, e = .returned (.tuple #[.slice o x.1.length c, .int .i64 x.2]) ∧ W'.ownsRow W.heap.size 9 1 (.slice o x.1.length c) x.1.length (strV x.1) ∧ Below W.heap.size W W'
theorem pp_none {x : List Bs × Int} {er : Int} {W W' : World} (h : x = ([], er)) (hb : Below W.heap.size W W') : PpPost x W (.returned (.tuple #[.slice none 0 0, .int .i64 er])) W' := by
  subst h
  exact ⟨none, 0, rfl, World.ownsRow_nil _ _ _ _, hb⟩
def opP (o : Op) : Op := o
theorem stepPI_at {ops : Array Oper} {o : Oper} {a : Act} {w : World} {K : Act → World → Prop} {Q : Exit → Act → World → Prop} {E : Prop} {F : Fence} {nF : Nat} (hg : o.guard = none) (s x : Operand) (t : TypeId)
    (ho : o.op = .call { callee := .builtin .append, args := #[s, x], argTypes := #[t, t] })
    (base : Nat) (e : TypeId) (i : TypeInfo) (z : Value) (size bytes : Nat) (ht : Tryz.prog.underlying t = some (.slice e)) (hi : Tryz.prog.info? e = some i) (hz : i.zero = some z)
    (hsize : i.size = size) (hby : i.bytes = bytes) (hzs : z.cells.size = size) (hsz : 0 < size)
    (v : Value) (n : Nat) (xs : List Value) (hs : a.eval s = v) (hown : w.ownsRow base e size v n xs)
    (ad : Addr) (m c : Nat) (news : List Value) (hx : a.eval x = .slice (some ad) m c) (hl : news.length = m * size) (hnews : ∀ j u, news[j]? = some u → w.cell? (ad.add j) = some u) (h1 : ∀ u ∈ news, u.oneCell' = true)
    (h63 : n + m ≤ maxLen) (hbytes : (n + m) * bytes ≤ 140737488355328) (hbase : base ≤ w.heap.size)
    (h : ∀ v' w', w'.ownsRow base e size v' (n + m) (xs ++ news) → w.grownBy w' v.ownBlock → (v'.ownBlock = v.ownBlock ∨ v'.ownBlock = some w.heap.size) → K (a.put o.dst v') w') :
    if Region.wanted o (yielded ops a.tmps) = true then Oper.wpIn F nF Tryz.prog o a w K Q else E := by
  rw [if_pos (by simp [Region.wanted, hg])]
  obtain ⟨v', w', hr, h2, h3, h4, h5⟩ := run_append_own_at (P := Tryz.prog) w base t o.type e i z size bytes ht hi hz hsize hby hzs hsz v n xs hown ad m c news hl hnews h1 h63 hbytes hbase
  unfold Oper.wpIn
  refine ⟨by simp [Oper.about, ho, resolve, Target.leads, Sem.run_pure], ?_⟩
  rw [Oper.semAt_plain F _ _ (by rw [ho]; intro c hc'; cases hc')]
  simp [execOp, ho, resolve, invoke, builtin, hs, hx, hr, Result.andThen]
  exact h v' w' h2 h3 h5
theorem row_shapeP {w : World} {B e n size : Nat} {v : Value} {xs : List Value} (h : w.ownsRow B e size v n xs) : ∃ a c, v = .slice a n c := by
  rcases h.2 with ⟨rfl, rfl⟩ | ⟨g', cap', cur, rfl, _⟩
  · exact ⟨_, _, rfl⟩
  · exact ⟨_, _, rfl⟩
theorem row_shapeP1 {w : World} {B e n size : Nat} {v : Value} {xs : List Value} (h : w.ownsRow B e size v (n + 1) xs) : ∃ g c, v = .slice (some ⟨g, 0, none⟩) (n + 1) c := by
  rcases h.2 with ⟨_, h0⟩ | ⟨g', cap', cur, rfl, _⟩
  · omega
  · exact ⟨_, _, rfl⟩
theorem row_baseP {w : World} {B B' e size n : Nat} {v : Value} {xs : List Value} (h : w.ownsRow B e size v n xs) (hb : B' ≤ B) : w.ownsRow B' e size v n xs := by
  refine ⟨h.1, ?_⟩
  rcases h.2 with h1 | ⟨g, cap, cur, h1, h2, h3⟩
  · exact .inl h1
  · exact .inr ⟨g, cap, cur, h1, Nat.le_trans hb h2, h3⟩
theorem infoStr : (Tryz.prog.info? 9).map (fun i => (i.zero, i.size, i.bytes)) = some (some (.string ⟨#[]⟩), 1, 16) := by kernel_rfl
theorem strV_snoc (l : List Bs) (x : Bs) : strV (l ++ [x]) = strV l ++ [.string (st x)] := by unfold strV; simp
theorem pp_keeps {W W' : World} (hb : Below W.heap.size W W') : KeepsOthers W W' := .of_grownBy (row := none) ⟨hb.os, hb.tape, hb.output, hb.size, fun k hk _ => hb.block k hk⟩ (fun j o e => by cases e)
theorem pp_box {n₀ N0 : Nat} {W W1 W2 W6 : World} {v : Value} {pre : List Bs} {y : Bs} (hN : N0 = n₀ + 4) (_hNl : N0 ≤ W.heap.size) (hv : Boxed W n₀ 31 v) (hrow : W.ownsRow N0 9 1 v pre.length (strV (pre.map unesc))) (hb1 : Below W.heap.size W W1) (hb2 : Below W1.heap.size W1.drew W2)
    (hg : (W2.alloc (.cells #[.string (st y)] 9)).grownBy W6 v.ownBlock) : W6.cell? ⟨n₀, 0, none⟩ = some v ∧ ∀ i, W6.frozen? ⟨n₀, i, none⟩ = false := by
  have h12 : Below W.heap.size W W2 := hb1.drew.trans (hb2.mono hb1.size)
  have h13 : Below W.heap.size W (W2.alloc (.cells #[.string (st y)] 9)) := h12.alloc h12.size _
  have hv3 : Boxed (W2.alloc (.cells #[.string (st y)] 9)) n₀ 31 v := (h13.block n₀ hv.lt).trans hv
  have hv6 : Boxed W6 n₀ 31 v := (hg.block n₀ hv3.lt (fun e => by have := (hrow.lt n₀ e.symm).1; omega)).trans hv3
  exact ⟨hv6.cell, fun i => frozen_of_row W6 n₀ i _ _ hv6⟩
theorem pp_body {n₀ N0 B : Nat} {w3 W W1 W2 W6 : World} {v v' : Value} {pre : List Bs} {x y : Bs} (hN : N0 = n₀ + 4) (hNl : N0 ≤ W.heap.size) (hv : Boxed W n₀ 31 v) (hrow : W.ownsRow N0 9 1 v pre.length (strV (pre.map unesc))) (hB : Below n₀ w3 W) (hb1 : Below W.heap.size W W1) (hb2 : Below W1.heap.size W1.drew W2) (hy : y = unesc x)
    (hown : W6.ownsRow N0 9 1 v' (pre.length + 1) (strV (pre.map unesc) ++ [.string (st y)])) (hg : (W2.alloc (.cells #[.string (st y)] 9)).grownBy W6 v.ownBlock) :
    KeepsFrom B W (W6.setCell ⟨n₀, 0, none⟩ v') ∧ KpS n₀ (n₀ + 1) (n₀ + 1 + 1) (n₀ + 1 + 1 + 1) W (W6.setCell ⟨n₀, 0, none⟩ v') ∧
      ((∃ v, Boxed (W6.setCell ⟨n₀, 0, none⟩ v') n₀ 31 v ∧ (W6.setCell ⟨n₀, 0, none⟩ v').ownsRow N0 9 1 v (pre ++ [x]).length (strV ((pre ++ [x]).map unesc)) ∧ True) ∧ Below n₀ w3 (W6.setCell ⟨n₀, 0, none⟩ v')) := by
  have h12 : Below W.heap.size W W2 := hb1.drew.trans (hb2.mono hb1.size)
  have h13 : Below W.heap.size W (W2.alloc (.cells #[.string (st y)] 9)) := h12.alloc h12.size _
  have hz := h13.size
  have hrl := fun k e => (hrow.lt k e).1
  have hrow3 : (W2.alloc (.cells #[.string (st y)] 9)).ownsRow N0 9 1 v pre.length (strV (pre.map unesc)) := hrow.kept (row := none) ⟨h13.os, h13.tape, h13.output, h13.size, fun k hk _ => h13.block k hk⟩ (Classical.em _)
  have hv3 : Boxed (W2.alloc (.cells #[.string (st y)] 9)) n₀ 31 v := (h13.block n₀ hv.lt).trans hv
  have hv6 : Boxed W6 n₀ 31 v := (hg.block n₀ hv3.lt (fun e => by have := hrl n₀ e.symm; omega)).trans hv3
  have h16 : Below n₀ W W6 := ⟨hg.os.trans h13.os, hg.tape.trans h13.tape, hg.output.trans h13.output, Nat.le_trans hz hg.size, fun k hk => (hg.block k (by omega) (fun e => by have := hrl k e.symm; omega)).trans (h13.block k (by omega))⟩
  have hbk : ∀ b, n₀ < b → b < n₀ + 4 → (W6.setCell ⟨n₀, 0, none⟩ v').heap[b]? = W.heap[b]? := fun b h1 h2 =>
    (Below.heap_setCell W6 ⟨n₀, 0, none⟩ v' b (by simp only; omega)).trans ((hg.block b (by omega) (fun e => by have := hrl b e.symm; omega)).trans (h13.block b (by omega)))
  have hko : KeepsOthers W (W6.setCell ⟨n₀, 0, none⟩ v') := ((pp_keeps h13).trans (.of_grownBy hg (fun j o e ho => by
    rcases hrow3.2 with ⟨rfl, _⟩ | ⟨g, cap, cur, rfl, _, hgb, _⟩
    · cases e
    · cases e
      rw [hgb] at ho
      cases ho
      rfl))).trans (.setCell _ _ _)
  refine ⟨hko.from B, ⟨h16.setCell (p := ⟨n₀, 0, none⟩) (Nat.le_refl _) v', hbk _ (by omega) (by omega), hbk _ (by omega) (by omega), hbk _ (by omega) (by omega)⟩, ⟨_, hv6.set v', ?_, trivial⟩, (hB.trans h16).setCell (p := ⟨n₀, 0, none⟩) (Nat.le_refl _) v'⟩
  have e1 : (pre ++ [x]).length = pre.length + 1 := by simp
  have e2 : strV ((pre ++ [x]).map unesc) = strV (pre.map unesc) ++ [.string (st y)] := by rw [List.map_append, hy]; exact strV_snoc _ _
  rw [e1, e2]
  exact hown.kept (grownBy_setCell' W6 n₀ v') (.inr (fun e => by have := (hown.lt n₀ e).1; omega))
theorem cut126_any (r : Bs) (W : World) (hM : mx W) (hr : r.length ≤ 134217728) : Calls Tryz.prog 58 #[.string (st r), .string ⟨#[126]⟩] W fun e w' => e = .returned (.tuple #[.string (st (Lib.cut r [126]).1), .string (st (Lib.cut r [126]).2.1), .bool (Lib.cut r [126]).2.2]) ∧ ∃ n, w' = W.drewN n := by
  obtain ⟨k, hk⟩ := hM
  exact Tryz.strings_Cut (st r) ⟨#[126]⟩ k W (by rw [st_size]; omega) hk
def strN : Value → Nat
  | .string b => b.size
  | _ => 0
set_option maxRecDepth 100000 in
set_option maxHeartbeats 4000000 in
theorem pparse_any (s : Bs) (w : World) (hT : tabs w) (hM : mx w) (hs : s.length ≤ 134217728) :
    Calls Tryz.prog 40 #[.string (st s)] w (PpPost (pparseM s) w) := by
  have HV := hq (valid_any (st s) w hT (by rw [st_size]; unfold maxLen; omega))
  have HM := hq hM
  have hss : (st s).size = s.length := st_size s
  have HN := hq (fun er W' => @pp_none (pparseM s) er w W')
  have HD : Hq (pparseM s = if (valid (st s)).2 = false ∨ (s ≠ [] ∧ s.head? ≠ some 47) then ([], 2) else if tildeOk s = false then ([], 2) else if 64 < s.count 47 then ([], 3) else if s = [] then ([], 0) else ((cutAt 47 (s.drop 1)).map unesc, 0)) := hq rfl
  generalize valid (st s) = V at *
  obtain ⟨vn, vb⟩ := V
  simp only at HV HD
  have HOK := hq (fun (x : List Bs × Int) o c W' (h : pparseM s = x) (hr : W'.ownsRow w.heap.size 9 1 (.slice o x.1.length c) x.1.length (strV x.1)) (hb : Below w.heap.size w W') => (by rw [h]; exact ⟨o, c, rfl, hr, hb⟩ : PpPost (pparseM s) w (.returned (.tuple #[.slice o x.1.length c, .int .i64 x.2])) W'))
  generalize PpPost (pparseM s) w = PP at *
  clear hT hM
  refine (callsIn_wide (n := 10)).1 ?_
  refine callsIn_of_wp_marks Tryz.func40 rfl trivial ?_ rfl
  simp only [Tryz.ntmps40, List.size_toArray, List.length_cons, List.length_nil, Nat.reduceAdd, Nat.reduceSub, Array.replicate_succ, Array.replicate_zero, List.push_toArray, List.append_toArray, List.nil_append, List.cons_append]
  cases vb with
  | false =>
    have HR := hq (fun W' => HN.o 2 W' (by rw [HD.o, if_pos (.inl rfl)]))
    clear HN HD
    gi_wp2_with (refine ⟨trivial, ?_⟩; gi_at_call 25; refine (callsIn_wide.2 HV.o).mono ?_; rintro e' w2 ⟨rfl, hb⟩)
    exact ⟨.tuple #[.slice none 0 0, .int .i64 2], by simp [results, Tryz.results40, go_sem], HR.o _ hb⟩
  | true =>
    by_cases hh : s ≠ [] ∧ s.head? ≠ some 47
    · have HR := hq (fun W' => HN.o 2 W' (by rw [HD.o, if_pos (.inr hh)]))
      obtain ⟨c, t, rfl⟩ : ∃ c t, s = c :: t := by
        cases s with
        | nil => exact absurd rfl hh.1
        | cons c t => exact ⟨c, t, rfl⟩
      have hc : c ≠ 47 := fun e => hh.2 (by rw [e]; rfl)
      have hz0 : (0 : Int) < ((c :: t).length : Int) := by simp
      have hcz : ((((st (c :: t))[0]'(by rw [st_size]; simp)).toNat : Int) != 47) = true := by
        rw [bne_iff_ne]
        intro e
        have e2 : (st (c :: t))[0]'(by rw [st_size]; simp) = c := rfl
        rw [e2] at e
        exact hc (UInt8.toNat_inj.1 (by show c.toNat = 47; omega))
      clear HN HD hh hc
      gi_wp2_with (refine ⟨trivial, ?_⟩; gi_at_call 25; refine (callsIn_wide.2 HV.o).mono ?_; rintro e' w2 ⟨rfl, hb⟩)
      exact ⟨.tuple #[.slice none 0 0, .int .i64 2], by simp [results, Tryz.results40, go_sem], HR.o _ hb⟩
    · have HD2 : Hq (pparseM s = if tildeOk s = false then ([], 2) else if 64 < s.count 47 then ([], 3) else if s = [] then ([], 0) else ((cutAt 47 (s.drop 1)).map unesc, 0)) := hq (by rw [HD.o, if_neg (by rintro (h | h); cases h; exact hh h)])
      have HH := hq hh
      clear HD hh
      have HCT := hq (fun W => Tryz.strings_Count_one (st s) 47 W)
      rw [st_list] at HCT
      cases hse : s with
      | nil =>
        rw [hse] at HV HCT
        have HR := hq (fun W' hb => HN.o 0 W' (by rw [HD2.o, hse]; rfl) hb)
        clear HN HD2 HH hss
        gi_wp2_with (refine ⟨trivial, ?_⟩; first | (gi_at_call 25; refine (callsIn_wide.2 HV.o).mono ?_; rintro e' w2 ⟨rfl, hb⟩) | (gi_at_call 60; refine (callsIn_wide.2 (HCT.o _)).mono ?_; rintro e' w3 ⟨rfl, rfl⟩))
        gi_loopw [6, 7, 8, 9] (fun u _ _ _ wr => u = .string (st []) ∧ Hq (Below w.heap.size w wr)) (fun _ _ _ _ _ => 0)
        case atStart => exact ⟨rfl, hq hb⟩
        case round =>
          obtain ⟨rfl, hbr⟩ := hrel
          gi_wp2_with (refine ⟨trivial, ?_⟩; first | (gi_at_call 60; refine (callsIn_wide.2 (HCT.o _)).mono ?_; rintro e' w3 ⟨rfl, rfl⟩) | skip)
          all_goals exact ⟨.tuple #[.slice none 0 0, .int .i64 0], by simp [results, Tryz.results40, go_sem], HR.o _ hbr.o⟩
      | cons c t =>
        have hc : c = 47 := Decidable.not_not.1 fun h => HH.o ⟨by rw [hse]; simp, by rw [hse]; simpa using h⟩
        subst hc
        rw [hse] at HV
        have HSE := hq hse
        have hcz : ((((st (47 :: t))[0]'(by rw [st_size]; simp)).toNat : Int) != 47) = false := rfl
        have hz0 : (0 : Int) < ((47 :: t : Bs).length : Int) := by simp
        have HCC := hq (fun (r : Bs) (W : World) (hM : mx W) (hr : r.length ≤ 134217728) => cut126_any r W hM hr)
        have hsl : (47 :: t : Bs).length ≤ 134217728 := by rw [← hse]; exact hs
        clear HH hse
        gi_wp2_with (refine ⟨trivial, ?_⟩; gi_at_call 25; refine (callsIn_wide.2 HV.o).mono ?_; rintro e' w2 ⟨rfl, hb⟩)
        have HB2 := hq hb
        clear hb HV hcz hz0
        gi_loopw [6, 7, 8, 9] (fun u _ _ _ wr => ∃ r : Bs, u = .string (st r) ∧ Hq (tildeOk s = tildeOk r) ∧ r.length ≤ 134217728 ∧ Hq (Below w.heap.size w wr)) (fun u _ _ _ _ => strN u)
        case atStart => exact ⟨47 :: t, rfl, hq (by rw [HSE.o]), hsl, HB2⟩
        case round =>
          obtain ⟨r, rfl, htl, hrl, hb⟩ := hrel
          clear HB2
          cases r with
          | nil =>
            have HTO : Hq (tildeOk s = true) := hq htl.o
            have HD3 : Hq (pparseM s = if 64 < s.count 47 then ([], 3) else ((cutAt 47 (s.drop 1)).map unesc, 0)) := hq (by
              rw [HD2.o, if_neg (by rw [HTO.o]; decide)]
              by_cases hc : 64 < s.count 47
              · rw [if_pos hc, if_pos hc]
              · rw [if_neg hc, if_neg hc, if_neg (by rw [HSE.o]; simp)])
            have HCT2 : Hq (∀ W, Calls Tryz.prog 60 #[.string (st (47 :: t)), .string ⟨#[47]⟩] W fun e w' => e = .returned (.int .i64 (s.count 47 : Nat)) ∧ w' = W) := hq (fun W => by have := HCT.o W; rw [HSE.o] at this ⊢; exact this)
            clear htl hrl HTO HD2 HCC HCT
            by_cases hbig : 64 < s.count 47
            · have hz : (64 : Int) < ((s.count 47 : Nat) : Int) := by omega
              have HR := hq (fun W' => HN.o 3 W' (by rw [HD3.o, if_pos hbig]))
              clear HD3 HOK HN hbig
              generalize s.count 47 = cn at *
              gi_wp2_with (refine ⟨trivial, ?_⟩; first | (gi_at_call 60; refine (callsIn_wide.2 (HCT2.o _)).mono ?_; rintro e' w3 ⟨rfl, rfl⟩) | skip)
              exact ⟨.tuple #[.slice none 0 0, .int .i64 3], by simp [results, Tryz.results40, go_sem], HR.o _ hb.o⟩
            · have hz : ¬ (64 : Int) < ((s.count 47 : Nat) : Int) := by omega
              have HD4 : Hq (pparseM s = ((cutAt 47 t).map unesc, 0)) := hq (by rw [HD3.o, if_neg hbig, HSE.o]; rfl)
              have hl1 : (1 : Int) ≤ ((47 :: t : Bs).length : Int) := by simp; omega
              have e2 : (st (47 :: t)).extract 1 (t.length + 1) = st t := by
                have := st_drop (47 :: t) 1
                rw [st_size] at this
                exact this
              clear HD3 HN hbig
              generalize s.count 47 = cn at *
              gi_wp2_with (refine ⟨trivial, ?_⟩; first | (gi_at_call 60; refine (callsIn_wide.2 (HCT2.o _)).mono ?_; rintro e' w3 ⟨rfl, rfl⟩) | (gi_at_call 61; refine (callsIn_wide.2 (SplitSeq_any (st t) ⟨#[47]⟩ _)).mono ?_; rintro e' w5 ⟨rfl, rfl⟩) | skip)
              have b1 := (((Boxed.new w3 31 (.slice none 0 0)).alloc (.cells #[.string (st t)] 9)).alloc (.cells #[.string ⟨#[47]⟩] 9)).alloc (.cells #[.int .i64 0] 3)
              have b2 := ((Boxed.new (w3.alloc (.cells #[.slice none 0 0] 31)) 9 (.string (st t))).alloc (.cells #[.string ⟨#[47]⟩] 9)).alloc (.cells #[.int .i64 0] 3)
              have b3 := (Boxed.new ((w3.alloc (.cells #[.slice none 0 0] 31)).alloc (.cells #[.string (st t)] 9)) 9 (.string ⟨#[47]⟩)).alloc (.cells #[.int .i64 0] 3)
              have b4 := Boxed.new (((w3.alloc (.cells #[.slice none 0 0] 31)).alloc (.cells #[.string (st t)] 9)).alloc (.cells #[.string ⟨#[47]⟩] 9)) 3 (.int .i64 0)
              have hB0 := (((below_alloc w3 (.cells #[.slice none 0 0] 31)).alloc (by simp) (.cells #[.string (st t)] 9)).alloc (by simp; omega) (.cells #[.string ⟨#[47]⟩] 9)).alloc (by simp; omega) (.cells #[.int .i64 0] 3)
              have hsz : ((((w3.alloc (.cells #[.slice none 0 0] 31)).alloc (.cells #[.string (st t)] 9)).alloc (.cells #[.string ⟨#[47]⟩] 9)).alloc (.cells #[.int .i64 0] 3)).heap.size = w3.heap.size + 4 := by simp
              simp only [World.size_alloc] at b2 b3 b4 ⊢
              obtain ⟨W0, hW0⟩ : ∃ W0, (((w3.alloc (.cells #[.slice none 0 0] 31)).alloc (.cells #[.string (st t)] 9)).alloc (.cells #[.string ⟨#[47]⟩] 9)).alloc (.cells #[.int .i64 0] 3) = W0 := ⟨_, rfl⟩
              rw [hW0] at b1 b2 b3 b4 hB0 hsz ⊢
              clear hW0
              have hPB : W0.heap.size = w3.heap.size + 4 := hsz
              have HB03 := hq (below_trans hb.o hB0)
              have hps : w.heap.size ≤ w3.heap.size := hb.o.size
              have htl : t.length ≤ 134217728 := by have := hsl; simp at this; omega
              generalize hn₀ : w3.heap.size = n₀ at *
              obtain ⟨i0, hi, hz0, hz1, hz2⟩ := info_parts infoStr
              refine' range_box rfl (by omega) (gf := 91) (lb := #[.pointer (some ⟨n₀ + 1 + 1, 0, none⟩), .pointer (some ⟨n₀ + 1, 0, none⟩), .pointer (some ⟨n₀ + 1 + 1 + 1, 0, none⟩)]) rfl trivial (enters_of Tryz.func91 (by kernel_rfl) rfl)
                (split_gives (n₀ + 1) n₀ t (by omega) W0 b2 b3 b4 (by omega) (by omega)) (by omega)
                (fun h k => ⟨h.1.trans k.1, k.2.1.trans h.2.1, k.2.2.1.trans h.2.2.1, k.2.2.2.trans h.2.2.2⟩)
                (fun W l o o' hl ho h1 h2 => ⟨belowK_b (w := W0) (by omega) W l o o' hl ho h1 h2, World.putObj_heap_other (by omega), World.putObj_heap_other (by omega), World.putObj_heap_other (by omega)⟩)
                (Below.refl _ _) (fun _ => rfl)
                (fun pre W => (∃ v, Boxed W n₀ 31 v ∧ W.ownsRow W0.heap.size 9 1 v pre.length (strV (pre.map unesc)) ∧ True) ∧ Below n₀ w3 W)
                ?own ?free ⟨⟨_, b1, World.ownsRow_nil _ _ _ _, trivial⟩, hB0⟩ _ ?assign ?bod ?done
              case own =>
                exact OwnFrom.and (Own.from (holdsRow_own (β := List Bs) W0.heap.size n₀ 31 9 1 (fun pre => pre.length) (fun pre => strV (pre.map unesc)) (fun _ _ => True)) _) (ownFrom_below (by omega) (by omega))
              case free =>
                rintro pre A u ⟨⟨v, h1, h2, _⟩, h3⟩
                exact ⟨⟨v, h1.other (by omega) u, h2.kept (grownBy_setCell' A (n₀ + 1) u) (.inr (fun e => by have := (h2.lt (n₀ + 1) e).1; omega)), trivial⟩, h3.setCell (p := ⟨n₀ + 1, 0, none⟩) (by simp only; omega) u⟩
              case assign =>
                intro l x W K hK
                gi_wp2
                exact hK
              case bod =>
                rintro l pre x W hl hlt ⟨⟨v, hv, hrow, _⟩, hB⟩ hpre
                have hxl : x.length ≤ 134217728 := Nat.le_trans (cutAt_mem 47 t x (hpre.subset (by simp))) htl
                have hpl : pre.length ≤ 134217728 := by
                  have h1 := hpre.length_le
                  have h2 := cutAt_len 47 t
                  rw [List.length_append, List.length_singleton] at h1
                  omega
                have hWs : n₀ ≤ W.heap.size := by have := hB.size; omega
                have hmW := mx_grow (mx_grow HM.o hb.o) (by rw [hn₀]; exact hB)
                have h1l := un2_len 49 47 _ x (Nat.le_refl _)
                have HR1 := hq (repl2_any 49 47 x W hmW (by omega))
                have HR2 := hq (fun WW (hbb : Below W.heap.size W WW) => repl2_any 48 126 (un2 49 47 x) WW (mx_grow hmW hbb) (by omega))
                have HV := hq (And.intro hv (And.intro hrow hB))
                have hvc := hv.cell
                have hWB : W0.heap.size ≤ W.heap.size := by omega
                have hmx : Tryz.prog.follows .mixedOrders = true := by kernel_rfl
                clear hmW hv hrow hB hpre
                gi_wp2_with (refine ⟨trivial, ?_⟩; gi_at_call 48; refine (callsIn_wide.2 HR1.o).inRound _ |>.mono ?_; rintro e' W1 ⟨rfl, hb1⟩; have HB1 := hq hb1; have hmm := hb1.size; have HVW1 := hq (And.intro ((hb1.block n₀ HV.o.1.lt).trans HV.o.1) (And.intro (HV.o.2.1.kept (row := none) ⟨hb1.os, hb1.tape, hb1.output, hb1.size, fun k hk _ => hb1.block k hk⟩ (Classical.em _)) (HV.o.2.2.trans (hb1.mono hWs)))); have c1 : W1.cell? ⟨n₀, 0, none⟩ = some v := (show Boxed W1 n₀ 31 v from HVW1.o.1).cell; have f1 := (show Boxed W1 n₀ 31 v from HVW1.o.1).frozen; clear hb1)
                have HNW : Hq (W0.heap.size ≤ W.heap.size) := hq hWB
                have HC2 := hq (fun W2 (hb2 : Below W1.heap.size W1.drew W2) => ((hb2.cell (p := ⟨n₀, 0, none⟩) (Nat.lt_of_lt_of_le HV.o.1.lt HB1.o.size)).trans c1 : W2.cell? ⟨n₀, 0, none⟩ = some v))
                have HRW := hq (fun W2 (hb2 : Below W1.heap.size W1.drew W2) => (let h12 := (HB1.o.drew.trans (hb2.mono HB1.o.size)).alloc (HB1.o.drew.trans (hb2.mono HB1.o.size)).size (.cells #[.string (st (un2 48 126 (un2 49 47 x)))] 9)
                  ⟨HV.o.2.1.kept (row := none) ⟨h12.os, h12.tape, h12.output, h12.size, fun k hk _ => h12.block k hk⟩ (Classical.em _), Nat.le_trans HNW.o h12.size⟩ :
                  (W2.alloc (.cells #[.string (st (un2 48 126 (un2 49 47 x)))] 9)).ownsRow W0.heap.size 9 1 v pre.length (strV (pre.map unesc)) ∧ W0.heap.size ≤ (W2.alloc (.cells #[.string (st (un2 48 126 (un2 49 47 x)))] 9)).heap.size))
                have HK6 := hq (fun W2 W6 (hb2 : Below W1.heap.size W1.drew W2) (hg : (W2.alloc (.cells #[.string (st (un2 48 126 (un2 49 47 x)))] 9)).grownBy W6 v.ownBlock) => pp_box (by omega) HNW.o HV.o.1 HV.o.2.1 HB1.o hb2 hg)
                have HPO := hq (fun W2 W6 v' hb2 hown hg => @pp_body n₀ W0.heap.size W0.heap.size w3 W W1 W2 W6 v v' pre x (un2 48 126 (un2 49 47 x)) (by omega) HNW.o HV.o.1 HV.o.2.1 HV.o.2.2 HB1.o (Hq.o hb2) rfl hown hg)
                clear HV HVW1 hmm
                refine wpIn_region_any (by assumption) ?_
                change wpAnyIn _ _ _ _ _ _ _ _ _ (World.drew _)
                refine wpAnyIn_ready (rs := [0, 1]) (by kernel_rfl) (by simp) ?_
                refine AllReadyIn.cons rfl (fun K hK => ?_) ?_
                · go_simp
                  refine hK _ _ ?_
                  clear hK K
                  refine wpAnyIn_ready (rs := [1]) (by kernel_rfl) (by simp) ?_
                  refine AllReadyIn.cons rfl (fun K hK => ?_) ?_
                  · go_simp
                    refine hK _ _ ?_
                    clear hK K
                    refine wpAnyIn_ready (rs := [2]) (by kernel_rfl) (by simp) ?_
                    refine AllReadyIn.cons rfl (fun K hK => ?_) ?_
                    · go_simp
                      refine ⟨trivial, ?_⟩
                      refine ((callsIn_wide.2 (HR2.o _ HB1.o.drew)).inRound _).mono ?_
                      rintro e' W2 ⟨rfl, hb2⟩
                      have hb2k := hq hb2
                      have c2 := HC2.o W2 hb2
                      have c3 : (W2.alloc (.cells #[.string (st (un2 48 126 (un2 49 47 x)))] 9)).cell? ⟨n₀, 0, none⟩ = some v := ((below_alloc W2 _).cell (p := ⟨n₀, 0, none⟩) (cell_blk c2)).trans c2
                      have HR6 := hq (HRW.o W2 hb2)
                      clear hb2
                      refine hK _ _ ?_
                      clear hK K
                      refine wpAnyIn_ready (rs := [3]) (by kernel_rfl) (by simp) ?_
                      refine AllReadyIn.cons rfl (fun K hK => ?_) ?_
                      · go_simp
                        refine hK _ _ ?_
                        clear hK K
                        refine wpAnyIn_ready (rs := [4]) (by kernel_rfl) (by simp) ?_
                        refine AllReadyIn.cons rfl (fun K hK => ?_) ?_
                        · refine stepPI_at rfl (.tmp 60) (.tmp 63) 31 rfl W0.heap.size 9 i0 (.string ⟨#[]⟩) 1 16 Tryz.underlying31 hi hz0 hz1 hz2 rfl (by decide) v pre.length (strV (pre.map unesc)) (by simp [Act.eval]) HR6.o.1 ⟨W2.heap.size, 0, none⟩ 1 1 [.string (st (un2 48 126 (un2 49 47 x)))] (by simp [Act.eval]) rfl (cells_of_new W2 [.string (st (un2 48 126 (un2 49 47 x)))] _) (by simp [Value.oneCell']) (by unfold maxLen; omega) (by omega) HR6.o.2 ?_
                          intro v' W6 hown6 hgrow6 _
                          obtain ⟨g6, c6, rfl⟩ := row_shapeP1 hown6
                          obtain ⟨k6, f6⟩ := HK6.o W2 W6 hb2k.o hgrow6
                          refine hK _ _ ?_
                          clear hK K
                          refine wpAnyIn_ready (rs := [5]) (by kernel_rfl) (by simp) ?_
                          refine AllReadyIn.cons rfl (fun K hK => ?_) ?_
                          · go_simp
                            refine hK _ _ ?_
                            clear hK K
                            refine wpAnyIn_done (by kernel_rfl) ?_ _
                            exact HPO.o W2 W6 _ hb2k hown6 hgrow6
                          exact AllReadyIn.nil
                        exact AllReadyIn.nil
                      exact AllReadyIn.nil
                    exact AllReadyIn.nil
                  exact AllReadyIn.nil
                refine AllReadyIn.cons rfl (fun K hK => ?_) ?_
                · go_simp
                  refine hK _ _ ?_
                  clear hK K
                  refine wpAnyIn_ready (rs := [0, 2]) (by kernel_rfl) (by simp) ?_
                  refine AllReadyIn.cons rfl (fun K hK => ?_) ?_
                  · go_simp
                    refine hK _ _ ?_
                    clear hK K
                    refine wpAnyIn_ready (rs := [2]) (by kernel_rfl) (by simp) ?_
                    refine AllReadyIn.cons rfl (fun K hK => ?_) ?_
                    · go_simp
                      refine ⟨trivial, ?_⟩
                      refine ((callsIn_wide.2 (HR2.o _ HB1.o.drew)).inRound _).mono ?_
                      rintro e' W2 ⟨rfl, hb2⟩
                      have hb2k := hq hb2
                      have c2 := HC2.o W2 hb2
                      have c3 : (W2.alloc (.cells #[.string (st (un2 48 126 (un2 49 47 x)))] 9)).cell? ⟨n₀, 0, none⟩ = some v := ((below_alloc W2 _).cell (p := ⟨n₀, 0, none⟩) (cell_blk c2)).trans c2
                      have HR6 := hq (HRW.o W2 hb2)
                      clear hb2
                      refine hK _ _ ?_
                      clear hK K
                      refine wpAnyIn_ready (rs := [3]) (by kernel_rfl) (by simp) ?_
                      refine AllReadyIn.cons rfl (fun K hK => ?_) ?_
                      · go_simp
                        refine hK _ _ ?_
                        clear hK K
                        refine wpAnyIn_ready (rs := [4]) (by kernel_rfl) (by simp) ?_
                        refine AllReadyIn.cons rfl (fun K hK => ?_) ?_
                        · refine stepPI_at rfl (.tmp 60) (.tmp 63) 31 rfl W0.heap.size 9 i0 (.string ⟨#[]⟩) 1 16 Tryz.underlying31 hi hz0 hz1 hz2 rfl (by decide) v pre.length (strV (pre.map unesc)) (by simp [Act.eval]) HR6.o.1 ⟨W2.heap.size, 0, none⟩ 1 1 [.string (st (un2 48 126 (un2 49 47 x)))] (by simp [Act.eval]) rfl (cells_of_new W2 [.string (st (un2 48 126 (un2 49 47 x)))] _) (by simp [Value.oneCell']) (by unfold maxLen; omega) (by omega) HR6.o.2 ?_
                          intro v' W6 hown6 hgrow6 _
                          obtain ⟨g6, c6, rfl⟩ := row_shapeP1 hown6
                          obtain ⟨k6, f6⟩ := HK6.o W2 W6 hb2k.o hgrow6
                          refine hK _ _ ?_
                          clear hK K
                          refine wpAnyIn_ready (rs := [5]) (by kernel_rfl) (by simp) ?_
                          refine AllReadyIn.cons rfl (fun K hK => ?_) ?_
                          · go_simp
                            refine hK _ _ ?_
                            clear hK K
                            refine wpAnyIn_done (by kernel_rfl) ?_ _
                            exact HPO.o W2 W6 _ hb2k hown6 hgrow6
                          exact AllReadyIn.nil
                        exact AllReadyIn.nil
                      exact AllReadyIn.nil
                    exact AllReadyIn.nil
                  refine AllReadyIn.cons rfl (fun K hK => ?_) ?_
                  · go_simp
                    refine ⟨trivial, ?_⟩
                    refine ((callsIn_wide.2 (HR2.o _ HB1.o.drew)).inRound _).mono ?_
                    rintro e' W2 ⟨rfl, hb2⟩
                    have hb2k := hq hb2
                    have c2 := HC2.o W2 hb2
                    have c3 : (W2.alloc (.cells #[.string (st (un2 48 126 (un2 49 47 x)))] 9)).cell? ⟨n₀, 0, none⟩ = some v := ((below_alloc W2 _).cell (p := ⟨n₀, 0, none⟩) (cell_blk c2)).trans c2
                    have HR6 := hq (HRW.o W2 hb2)
                    clear hb2
                    refine hK _ _ ?_
                    clear hK K
                    refine wpAnyIn_ready (rs := [0, 3]) (by kernel_rfl) (by simp) ?_
                    refine AllReadyIn.cons rfl (fun K hK => ?_) ?_
                    · go_simp
                      refine hK _ _ ?_
                      clear hK K
                      refine wpAnyIn_ready (rs := [3]) (by kernel_rfl) (by simp) ?_
                      refine AllReadyIn.cons rfl (fun K hK => ?_) ?_
                      · go_simp
                        refine hK _ _ ?_
                        clear hK K
                        refine wpAnyIn_ready (rs := [4]) (by kernel_rfl) (by simp) ?_
                        refine AllReadyIn.cons rfl (fun K hK => ?_) ?_
                        · refine stepPI_at rfl (.tmp 60) (.tmp 63) 31 rfl W0.heap.size 9 i0 (.string ⟨#[]⟩) 1 16 Tryz.underlying31 hi hz0 hz1 hz2 rfl (by decide) v pre.length (strV (pre.map unesc)) (by simp [Act.eval]) HR6.o.1 ⟨W2.heap.size, 0, none⟩ 1 1 [.string (st (un2 48 126 (un2 49 47 x)))] (by simp [Act.eval]) rfl (cells_of_new W2 [.string (st (un2 48 126 (un2 49 47 x)))] _) (by simp [Value.oneCell']) (by unfold maxLen; omega) (by omega) HR6.o.2 ?_
                          intro v' W6 hown6 hgrow6 _
                          obtain ⟨g6, c6, rfl⟩ := row_shapeP1 hown6
                          obtain ⟨k6, f6⟩ := HK6.o W2 W6 hb2k.o hgrow6
                          refine hK _ _ ?_
                          clear hK K
                          refine wpAnyIn_ready (rs := [5]) (by kernel_rfl) (by simp) ?_
                          refine AllReadyIn.cons rfl (fun K hK => ?_) ?_
                          · go_simp
                            refine hK _ _ ?_
                            clear hK K
                            refine wpAnyIn_done (by kernel_rfl) ?_ _
                            exact HPO.o W2 W6 _ hb2k hown6 hgrow6
                          exact AllReadyIn.nil
                        exact AllReadyIn.nil
                      exact AllReadyIn.nil
                    refine AllReadyIn.cons rfl (fun K hK => ?_) ?_
                    · go_simp
                      refine hK _ _ ?_
                      clear hK K
                      refine wpAnyIn_ready (rs := [0]) (by kernel_rfl) (by simp) ?_
                      refine AllReadyIn.cons rfl (fun K hK => ?_) ?_
                      · go_simp
                        refine hK _ _ ?_
                        clear hK K
                        refine wpAnyIn_ready (rs := [4]) (by kernel_rfl) (by simp) ?_
                        refine AllReadyIn.cons rfl (fun K hK => ?_) ?_
                        · refine stepPI_at rfl (.tmp 60) (.tmp 63) 31 rfl W0.heap.size 9 i0 (.string ⟨#[]⟩) 1 16 Tryz.underlying31 hi hz0 hz1 hz2 rfl (by decide) v pre.length (strV (pre.map unesc)) (by simp [Act.eval]) HR6.o.1 ⟨W2.heap.size, 0, none⟩ 1 1 [.string (st (un2 48 126 (un2 49 47 x)))] (by simp [Act.eval]) rfl (cells_of_new W2 [.string (st (un2 48 126 (un2 49 47 x)))] _) (by simp [Value.oneCell']) (by unfold maxLen; omega) (by omega) HR6.o.2 ?_
                          intro v' W6 hown6 hgrow6 _
                          obtain ⟨g6, c6, rfl⟩ := row_shapeP1 hown6
                          obtain ⟨k6, f6⟩ := HK6.o W2 W6 hb2k.o hgrow6
                          refine hK _ _ ?_
                          clear hK K
                          refine wpAnyIn_ready (rs := [5]) (by kernel_rfl) (by simp) ?_
                          refine AllReadyIn.cons rfl (fun K hK => ?_) ?_
                          · go_simp
                            refine hK _ _ ?_
                            clear hK K
                            refine wpAnyIn_done (by kernel_rfl) ?_ _
                            exact HPO.o W2 W6 _ hb2k hown6 hgrow6
                          exact AllReadyIn.nil
                        exact AllReadyIn.nil
                      exact AllReadyIn.nil
                    exact AllReadyIn.nil
                  exact AllReadyIn.nil
                exact AllReadyIn.nil
              case done =>
                rintro D W hD ⟨⟨v, hv, hrow, _⟩, hB⟩ hK
                obtain ⟨o, c, rfl⟩ := row_shapeP hrow
                have hcv := hv.cell
                have HV2 := hq (And.intro hrow hB)
                gi_wp2
                refine ⟨by simp, .inl ⟨_, _, rfl, run_takeDeferred hK, ?_⟩⟩
                have hf1 : (W.putObj D (.deferred none)).ownsRow w.heap.size 9 1 (.slice o ((cutAt 47 t).map unesc).length c) ((cutAt 47 t).map unesc).length (strV ((cutAt 47 t).map unesc)) := by
                  have h1 := ownsRow_putObj HV2.o.1 (.deferred none) hK rfl
                  simp only [List.length_map]
                  exact row_baseP h1 (by omega)
                have hf2 : Below w.heap.size w (W.putObj D (.deferred none)) := by
                  have h2 := HV2.o.2.trans (belowK_b (w := w3) (by omega) W D _ (.deferred none) (by omega) hK rfl rfl)
                  exact hb.o.trans (h2.mono hps)
                have hfin := HOK.o ((cutAt 47 t).map unesc, 0) o c _ HD4.o hf1 hf2
                simp only [List.length_map] at hfin
                exact ⟨.tuple #[.slice o (cutAt 47 t).length c, .int .i64 0], by simp [results, Tryz.results40, go_sem], hfin⟩
          | cons c r =>
            have hmw := mx_grow HM.o hb.o
            have HC := hq (HCC.o (c :: r) wr hmw hrl)
            rcases til_cut (c :: r) with ⟨h1, h2⟩ | ⟨a, b, h1, h2, h3⟩
            · rw [h1] at HC
              simp only at HC
              have HT2 : Hq (tildeOk s = tildeOk []) := hq (by rw [htl.o, h2]; rfl)
              clear htl h1 h2 hmw HCC
              gi_wp2_with (refine ⟨trivial, ?_⟩; first | (gi_at_call 58; refine (callsIn_wide.2 HC.o).mono ?_; rintro e' w3 ⟨rfl, k, rfl⟩) | skip)
              go_roundw
              case rel => exact ⟨[], rfl, HT2, by simp, hq (below_drawnP hb.o k)⟩
              case measure =>
                show (st ([] : Bs)).size < (st (c :: r)).size
                rw [st_size, st_size]; simp
            · rw [h1] at HC
              simp only at HC
              have HT2 : Hq (tildeOk s = (hd01 b && tildeOk b)) := hq (htl.o.trans h2)
              have HP8 := hq (fun W => Tryz.strings_HasPrefix (st b) ⟨#[48]⟩ W)
              have HP9 := hq (fun W => Tryz.strings_HasPrefix (st b) ⟨#[49]⟩ W)
              rw [st_list] at HP8 HP9
              have HH : Hq (hd01 b = (Lib.hasPrefix b [48] || Lib.hasPrefix b [49])) := hq rfl
              rw [show (⟨#[48]⟩ : ByteArray).data.toList = [48] from rfl] at HP8
              rw [show (⟨#[49]⟩ : ByteArray).data.toList = [49] from rfl] at HP9
              have hbl : b.length ≤ 134217728 := by omega
              clear htl h1 h2 hmw HCC
              generalize Lib.hasPrefix b [48] = p8 at *
              generalize Lib.hasPrefix b [49] = p9 at *
              cases p8 with
              | true =>
                gi_wp2_with (refine ⟨trivial, ?_⟩; first | (gi_at_call 58; refine (callsIn_wide.2 HC.o).mono ?_; rintro e' w3 ⟨rfl, k, rfl⟩) | (gi_at_call 59; refine (callsIn_wide.2 (HP8.o _)).mono ?_; rintro e' w4 ⟨rfl, rfl⟩) | skip)
                go_roundw
                case rel => exact ⟨b, rfl, hq (by rw [HT2.o, HH.o]; rfl), hbl, hq (below_drawnP hb.o k)⟩
                case measure =>
                  show (st b).size < (st (c :: r)).size
                  rw [st_size, st_size]; exact h3
              | false =>
                cases p9 with
                | true =>
                  gi_wp2_with (refine ⟨trivial, ?_⟩; first | (gi_at_call 58; refine (callsIn_wide.2 HC.o).mono ?_; rintro e' w3 ⟨rfl, k, rfl⟩) | (gi_at_call 59; first | (refine (callsIn_wide.2 (HP8.o _)).mono ?_; rintro e' w4 ⟨rfl, rfl⟩) | (refine (callsIn_wide.2 (HP9.o _)).mono ?_; rintro e' w4 ⟨rfl, rfl⟩)) | skip)
                  go_roundw
                  case rel => exact ⟨b, rfl, hq (by rw [HT2.o, HH.o]; rfl), hbl, hq (below_drawnP hb.o k)⟩
                  case measure =>
                  show (st b).size < (st (c :: r)).size
                  rw [st_size, st_size]; exact h3
                | false =>
                  have HR := hq (fun W' => HN.o 2 W' (by rw [HD2.o, if_pos (by rw [HT2.o, HH.o]; rfl)]))
                  clear HN HD2
                  gi_wp2_with (refine ⟨trivial, ?_⟩; first | (gi_at_call 58; refine (callsIn_wide.2 HC.o).mono ?_; rintro e' w3 ⟨rfl, k, rfl⟩) | (gi_at_call 59; first | (refine (callsIn_wide.2 (HP8.o _)).mono ?_; rintro e' w4 ⟨rfl, rfl⟩) | (refine (callsIn_wide.2 (HP9.o _)).mono ?_; rintro e' w4 ⟨rfl, rfl⟩)) | skip)
                  exact ⟨.tuple #[.slice none 0 0, .int .i64 2], by simp [results, Tryz.results40, go_sem], HR.o _ (below_drawnP hb.o k)⟩
theorem own_strs {w : World} {B n : Nat} {o : Option Addr} {c : Nat} {l : List Bs} (h : w.ownsRow B 9 1 (.slice o n c) n (strV l)) (hn : n = l.length) : StrsIn w o l := fun i hi => by
  rcases h.2 with ⟨h1, h0⟩ | ⟨g, cap, cur, hv, _, _, _, _, _⟩
  · omega
  · injection hv with ho
    have hu : (strV l)[i]? = some (.string (st l[i])) := by unfold strV; simp [hi]
    have hcl := h.cells (g := g) (by rw [ho]; rfl) i _ hu
    rw [Addr.add_lit, Nat.zero_add] at hcl
    exact ⟨g, 0, ho, by rw [Nat.zero_add]; exact hcl⟩
theorem own_srow {w : World} {B : Nat} {o : Option Addr} {c : Nat} {l : List Bs} (h : w.ownsRow B 9 1 (.slice o l.length c) l.length (strV l)) : SRow.ok w ⟨o, c, l⟩ := by
  refine ⟨?_, ?_, own_strs h rfl⟩
  · rcases h.2 with ⟨h1, h0⟩ | ⟨g, cap, cur, hv, _, _, hc, hm, _⟩
    · simp only [h0]; exact Nat.zero_le _
    · injection hv with _ _ e; subst e; exact hc
  · rcases h.2 with ⟨h1, h0⟩ | ⟨g, cap, cur, hv, _, _, hc, hm, _⟩
    · injection h1 with _ _ e; subst e; exact Nat.zero_le _
    · injection hv with _ _ e; subst e; exact hm
theorem pparse_sht (t : Bs) (h : t.length ≤ 134217728) : ShtT (pparseM t).1 := fun x hx => by
  unfold pparseM at hx
  split at hx
  · cases hx
  · split at hx
    · cases hx
    · split at hx
      · cases hx
      · split at hx
        · cases hx
        · obtain ⟨y, hy, rfl⟩ := List.mem_map.1 hx
          have h1 := cutAt_mem 47 _ y hy
          rw [List.length_drop] at h1
          have h2 := un2_len 49 47 _ y (Nat.le_refl _)
          have h3 := un2_len 48 126 _ (un2 49 47 y) (Nat.le_refl _)
          unfold unesc
          omega
end Go.Proofs.YtmadgdafgkleiaaGreatDoor

