/-
  WALKS: strings.SplitSeq and its iterator, of a text cut at one byte.
-/
import Derived.Test.YtmomildkopainaaDoorRngB
import Derived.Test.YtmomildkopainaaDoorPtW
namespace Go.Proofs.YtmomildkopainaaDoor
open Go.RowKit Go.Shelf
attribute [local go_sem] Oper.semAt_some

/-- what a round keeps: what lay below n₀, and the iterator's three boxes -/
def KpS (n₀ b1 b2 b3 : Nat) (A B : World) : Prop := Below n₀ A B ∧ B.heap[b1]? = A.heap[b1]? ∧ B.heap[b2]? = A.heap[b2]? ∧ B.heap[b3]? = A.heap[b3]?
theorem below_drawnP {B : Nat} {a w : World} (h : Below B a w) (n : Nat) : Below B a (w.drewN n) := ⟨h.os, h.tape, h.output, h.size, h.block⟩
def boxLen (w : World) (B : Nat) : Nat := match w.cell? ⟨B, 0, none⟩ with
  | some (.string s) => s.size
  | _ => 0
theorem boxLen_is {w : World} {B : Nat} {t : TypeId} {r : Bs} (h : Boxed w B t (.string (st r))) : boxLen w B = r.length := by
  unfold boxLen
  rw [h.cell]
  exact st_size r
theorem abides_belowX {α : Type} {J : List α → World → Prop} {B : Nat} (h : AbidesFrom B J) : ∀ pre A C, J pre A → Below A.heap.size A C → J pre C :=
  fun pre A C hj hb => h pre A C none hj ⟨hb.os, hb.tape, hb.output, hb.size, fun k hk _ => hb.block k hk⟩ (fun r e => by cases e)
/-- where a byte stands first -/
theorem indexByte_cut (c : UInt8) : ∀ l : Bs, (Lib.indexByte l c = -1 ∧ cutAt c l = [l]) ∨ ∃ i, i < l.length ∧ Lib.indexByte l c = ((i : Nat) : Int) ∧ cutAt c l = l.take i :: cutAt c (l.drop (i + 1))
  | [] => .inl ⟨rfl, rfl⟩
  | b :: r => by
    by_cases h : b = c
    · subst h
      refine .inr ⟨0, by simp, ?_, ?_⟩
      · unfold Lib.indexByte
        simp
      · rw [cutAt, if_pos rfl]; simp
    · rcases indexByte_cut c r with ⟨h1, h2⟩ | ⟨i, hi, h1, h2⟩
      · refine .inl ⟨?_, ?_⟩
        · unfold Lib.indexByte
          rw [h1]
          simp [h]
        · rw [cutAt, if_neg h, h2]
      · refine .inr ⟨i + 1, by simp; omega, ?_, ?_⟩
        · unfold Lib.indexByte
          rw [h1, if_neg (by simpa using h), if_neg (by simp <;> omega)]
          omega
        · rw [cutAt, if_neg h, h2]
          simp
theorem st_take (r : Bs) (i : Nat) : (st r).extract 0 i = st (r.take i) := by
  apply ByteArray.ext
  rw [ByteArray.data_extract]
  apply Array.toList_inj.1
  rw [Array.toList_extract]
  simp [st]
theorem st_drop (r : Bs) (i : Nat) : (st r).extract i (st r).size = st (r.drop i) := by
  apply ByteArray.ext
  rw [ByteArray.data_extract]
  apply Array.toList_inj.1
  rw [Array.toList_extract, st_size]
  simp [st]
  exact List.take_of_length_le (by rw [List.length_drop]; exact Nat.le_refl _)
set_option maxRecDepth 100000 in
set_option maxHeartbeats 2000000 in
theorem split_gives (Bn n₀ : Nat) (s : Bs) (hs : s.length < 4294967281) (w : World) (hBn : Boxed w Bn 9 (.string (st s))) (hSp : Boxed w (Bn + 1) 9 (.string ⟨#[47]⟩)) (hSv : Boxed w (Bn + 1 + 1) 3 (.int .i64 0)) (hn₀ : n₀ ≤ w.heap.size) (hnB : n₀ ≤ Bn) :
    GivesB Fence.wide 9 Tryd.prog 137 #[.pointer (some ⟨Bn + 1, 0, none⟩), .pointer (some ⟨Bn, 0, none⟩), .pointer (some ⟨Bn + 1 + 1, 0, none⟩)] (fun x : Bs => #[.string (st x)]) (KpS n₀ Bn (Bn + 1) (Bn + 1 + 1)) Bn (cutAt 47 s) w := by
  intro l J W hW hJ hF hY h0
  have hB0 : Boxed W Bn 9 (.string (st s)) := (hW.block Bn hBn.lt).trans hBn
  have hP0 : Boxed W (Bn + 1) 9 (.string ⟨#[47]⟩) := (hW.block (Bn + 1) hSp.lt).trans hSp
  have hV0 : Boxed W (Bn + 1 + 1) 3 (.int .i64 0) := (hW.block (Bn + 1 + 1) hSv.lt).trans hSv
  have hsz : n₀ ≤ W.heap.size := Nat.le_trans hn₀ hW.size
  have HJ := hq (abides_belowX hJ)
  have HF := hq hF
  have HY := hq hY
  have HB := hq hB0
  have HPB := hq hP0
  have HVB := hq hV0
  obtain ⟨LL, hLL⟩ : ∃ LL, LL = cutAt 47 s := ⟨_, rfl⟩
  have HLL : Hq (LL = [] ++ cutAt 47 s) := hq hLL
  rw [← hLL] at HY ⊢
  clear hW hJ hF hY hBn hSp hSv hn₀ hLL
  refine callsIn_of_wp Tryd.func137 rfl trivial ?_ rfl
  simp only [Tryd.ntmps137, List.size_toArray, List.length_cons, List.length_nil, Nat.reduceAdd, Nat.reduceSub, Array.replicate_succ, Array.replicate_zero, List.push_toArray, List.append_toArray, List.nil_append, List.cons_append]
  have p0 := hP0.cell
  clear hB0 hP0 hV0
  gi_wp2
  clear p0
  gi_loopw [7, 8] (fun _ _ wr => ∃ (r : Bs) (pre : List Bs), Boxed wr Bn 9 (.string (st r)) ∧ Boxed wr (Bn + 1) 9 (.string ⟨#[47]⟩) ∧ Boxed wr (Bn + 1 + 1) 3 (.int .i64 0) ∧ J pre wr ∧ Below n₀ W wr ∧ Hq (LL = pre ++ cutAt 47 r) ∧ r.length ≤ s.length) (fun _ _ wr => boxLen wr Bn)
  case atStart => exact ⟨s, [], HB.o, HPB.o, HVB.o, h0, Below.refl _ _, HLL, Nat.le_refl _⟩
  case round =>
    obtain ⟨r, pre, hbox, hbp, hbv, hj, hb, hl, hrs⟩ := hrel
    clear HLL HB HPB HVB h0
    have hc0 := hbox.cell
    have hc1 := hbp.cell
    have hc2 := hbv.cell
    have hfz := hbox.frozen
    have HBL := hq (boxLen_is hbox)
    have hws := hb.size
    have HIX := hq (fun W => Tryd.strings_Index_one (st r) 47 W)
    rw [st_list] at HIX
    rcases indexByte_cut 47 r with ⟨h1, h2⟩ | ⟨i, hi, h1, h2⟩
    · rw [h1] at HIX
      have hll : LL = pre ++ [r] := by rw [hl.o, h2]
      have HN := hq hll
      have HPR : Hq (pre ++ [r] <+: LL) := hq (by rw [hll]; exact List.prefix_refl _)
      clear hl h1 h2 hll
      gi_wp2_with (refine ⟨trivial, ?_⟩; gi_at_call 122; refine (callsIn_wide.2 (HIX.o _)).mono ?_; rintro e' w2 ⟨rfl, rfl⟩; obtain ⟨fn, tmps, assign, body, hy, hR⟩ := HY.o pre r _ hj HPR.o)
      refine hR.mono ?_
      rintro e' W3 ⟨rfl, hJ3, hk3⟩
      gi_wp2
      go_end0
      exact ⟨⟨_, rfl⟩, by rw [HN.o]; exact hJ3⟩
    · rw [h1] at HIX
      have hll : LL = (pre ++ [r.take i]) ++ cutAt 47 (r.drop (i + 1)) := by rw [hl.o, h2]; simp
      have HN := hq hll
      have HPR : Hq (pre ++ [r.take i] <+: LL) := hq (by rw [hll]; exact List.prefix_append _ _)
      have hdl : (r.drop (i + 1)).length = r.length - (i + 1) := List.length_drop ..
      have e1 : (st r).extract 0 i = st (r.take i) := st_take r i
      have e2 : (st r).extract (i + 1) r.length = st (r.drop (i + 1)) := by rw [← st_size r]; exact st_drop r (i + 1)
      have hss : (st r).size = r.length := st_size r
      have hiz : (i : Int) ≤ (r.length : Int) := by omega
      have hiz2 : (i : Int) + 1 ≤ (r.length : Int) := by omega
      clear hl h1 h2 hll
      gi_wp2_with (refine ⟨trivial, ?_⟩; gi_at_call 122; refine (callsIn_wide.2 (HIX.o _)).mono ?_; rintro e' w2 ⟨rfl, rfl⟩; obtain ⟨fn, tmps, assign, body, hy, hR⟩ := HY.o pre (r.take i) _ hj HPR.o)
      refine hR.mono ?_
      rintro e' W3 ⟨rfl, hJ3, hk3⟩
      have hb3 := hk3.2.1.trans hbox
      have hp3 := hk3.2.2.1.trans hbp
      have hv3 := hk3.2.2.2.trans hbv
      have hc0 := (show Boxed W3 Bn 9 (.string (st r)) from hb3).cell
      have hc1 := (show Boxed W3 (Bn + 1) 9 (.string ⟨#[47]⟩) from hp3).cell
      have hfz := (show Boxed W3 Bn 9 (.string (st r)) from hb3).frozen
      have hj4 := HF.o _ _ (.string (st (r.drop (i + 1)))) hJ3
      have hbx := (show Boxed W3 Bn 9 (.string (st r)) from hb3).set (.string (st (r.drop (i + 1))))
      have hbp4 := (show Boxed W3 (Bn + 1) 9 (.string ⟨#[47]⟩) from hp3).other (B' := Bn) (by omega) (.string (st (r.drop (i + 1))))
      have hbv4 := (show Boxed W3 (Bn + 1 + 1) 3 (.int .i64 0) from hv3).other (B' := Bn) (by omega) (.string (st (r.drop (i + 1))))
      gi_wp2
      go_roundw
      case rel =>
        exact ⟨r.drop (i + 1), pre ++ [r.take i], hbx, hbp4, hbv4, hj4, (hb.trans hk3.1).setCell (p := ⟨Bn, 0, none⟩) hnB _, HN, by omega⟩
      case measure =>
        rw [HBL.o, boxLen_is hbx]
        omega
/-- strings.SplitSeq at a byte: its iterator, over three boxes -/
theorem splitSeq_any (s sep : ByteArray) (w : World) : Calls Tryd.prog 123 #[.string s, .string sep, .int .i64 0] w fun e w' => e = .returned (.func (.func 137) #[] #[.pointer (some ⟨w.heap.size + 1, 0, none⟩), .pointer (some ⟨w.heap.size, 0, none⟩), .pointer (some ⟨w.heap.size + 1 + 1, 0, none⟩)]) ∧ w' = ((w.alloc (.cells #[.string s] 9)).alloc (.cells #[.string sep] 9)).alloc (.cells #[.int .i64 0] 3) := by
  have hmf : ∀ fn first cap w, (Instr.makeFunc fn first cap).run Tryd.prog w = .ok (.func fn first cap) w := fun _ _ _ _ => rfl
  go_enter Tryd.func123, Tryd.ntmps123
  go_wp2_with fail
  go_ret
  exact ⟨rfl, rfl⟩
theorem SplitSeq_any (s sep : ByteArray) (w : World) : Calls Tryd.prog 93 #[.string s, .string sep] w fun e w' => e = .returned (.func (.func 137) #[] #[.pointer (some ⟨w.heap.size + 1, 0, none⟩), .pointer (some ⟨w.heap.size, 0, none⟩), .pointer (some ⟨w.heap.size + 1 + 1, 0, none⟩)]) ∧ w' = ((w.alloc (.cells #[.string s] 9)).alloc (.cells #[.string sep] 9)).alloc (.cells #[.int .i64 0] 3) := by
  have HC := hq (splitSeq_any s sep w)
  go_enter Tryd.func93, Tryd.ntmps93
  go_wp2_with fail
  refine HC.o.mono ?_
  rintro e w' ⟨rfl, rfl⟩
  go_wp2_with fail
  go_ret
  exact ⟨rfl, rfl⟩
end Go.Proofs.YtmomildkopainaaDoor
