/-
  THE CELL OF bytealg.MaxLen. WALK: pointer.Text.
-/
import Derived.Test.YtmomildkopainaaDoorPtM
import Derived.Test.YtmomildkopainaaDoorRuC
import Derived.Test.YtmomildkopainaaDoorBldA
namespace Go.Proofs.YtmomildkopainaaDoor
open Go.RowKit

def mx (w : World) : Prop := ∃ m : Int, w.cell? ⟨0, 0, none⟩ = some (.int .i64 m)
theorem mx_of {w : World} (h : w.ShapedOpen Tryd.prog) : mx w := Tryd.laysM145.s1_3 w h
theorem mx_lt {w : World} (h : mx w) : 0 < w.heap.size := by
  obtain ⟨m, hm⟩ := h
  by_cases hb : 0 < w.heap.size
  · exact hb
  · unfold World.cell? at hm
    rw [Array.getElem?_eq_none (by omega)] at hm
    cases hm
theorem mx_below {B : Nat} {w w' : World} (h : mx w) (hb : Below B w w') (hB : 0 < B) : mx w' := by
  obtain ⟨m, hm⟩ := h
  exact ⟨m, (hb.cell (p := ⟨0, 0, none⟩) hB).trans hm⟩
theorem mx_grow {w w' : World} (h : mx w) (hb : Below w.heap.size w w') : mx w' := mx_below h hb (mx_lt h)
/-- strings.ReplaceAll of one byte -/
theorem repl1_any (c : UInt8) (new x : Bs) (w : World) (hM : mx w) (hc : new ≠ [c]) (hn : new.length = 2) (hx : x.length ≤ 1073741824) :
    Calls Tryd.prog 83 #[.string (st x), .string ⟨#[c]⟩, .string (st new)] w fun e w' => e = .returned (.string (st (psub c new x))) ∧ Below w.heap.size w w' := by
  obtain ⟨m, hm⟩ := hM
  have hco : Lib.countB (st x) ⟨#[c]⟩ ≤ (st x).size := Lib.countB_le ⟨#[c]⟩ (Nat.le_refl 1) _ (st x) (Nat.le_refl _)
  have hz : (st new).size = 2 := by rw [st_size, hn]
  rw [st_size] at hco
  have hr := Tryd.strings_ReplaceAll (st x) ⟨#[c]⟩ (st new) m w (by rw [st_size]; omega) hm (Nat.le_refl 1) (by rw [hz, st_size]; omega)
  have e : Lib.replaceAll (st x).data.toList (⟨#[c]⟩ : ByteArray).data.toList (st new).data.toList = psub c new x := by
    rw [st_list, st_list]
    exact replaceAll_psub c new x hc
  rw [e] at hr
  exact hr
/-- strings.ReplaceAll of two bytes by one -/
theorem repl2_any (d c : UInt8) (x : Bs) (w : World) (hM : mx w) (hx : x.length ≤ 1073741824) :
    Calls Tryd.prog 83 #[.string (st x), .string ⟨#[126, d]⟩, .string ⟨#[c]⟩] w fun e w' => e = .returned (.string (st (un2 d c x))) ∧ Below w.heap.size w w' := by
  obtain ⟨m, hm⟩ := hM
  have hco : Lib.countB (st x) ⟨#[126, d]⟩ ≤ (st x).size := Lib.countB_le ⟨#[126, d]⟩ (show 1 ≤ 2 by omega) _ (st x) (Nat.le_refl _)
  rw [st_size] at hco
  have hr := Tryd.strings_ReplaceAll (st x) ⟨#[126, d]⟩ ⟨#[c]⟩ m w (by rw [st_size]; omega) hm (show 1 ≤ 2 by omega) (by rw [st_size]; show x.length + _ * 1 ≤ _; omega)
  have e : Lib.replaceAll (st x).data.toList (⟨#[126, d]⟩ : ByteArray).data.toList (⟨#[c]⟩ : ByteArray).data.toList = un2 d c x := by
    rw [st_list]
    exact replaceAll_two d c x
  rw [e] at hr
  exact hr
/-- a path as a text, or none -/
def ptxM (p : List Bs) : Bs × Int := if pgoodB p = true then (ptext p, 0) else ([], 1)
def PtxPost (x : Bs × Int) (W : World) (e : Ending) (W' : World) : Prop := e = .returned (.tuple #[.string (st x.1), .int .i64 x.2]) ∧ Below W.heap.size W W'
theorem ptext_snoc (p : List Bs) (x : Bs) : ptext (p ++ [x]) = ptext p ++ 47 :: pesc x := by unfold ptext; rw [List.flatMap_append]; simp
theorem ptext_take {p : List Bs} {i : Nat} (hi : i < p.length) : ptext (p.take (i + 1)) = ptext (p.take i) ++ [47] ++ pesc p[i] := by
  rw [List.take_succ_eq_append_getElem hi, ptext_snoc, List.append_assoc]; rfl
theorem ptext_len (M : Nat) : ∀ (p : List Bs), (∀ x ∈ p, x.length ≤ M) → (ptext p).length ≤ p.length * (2 * M + 1)
  | [], _ => by simp [ptext]
  | x :: p, h => by
    have ih := ptext_len M p (fun y hy => h y (List.mem_cons_of_mem _ hy))
    have h1 := pesc_len x
    have h2 := h x List.mem_cons_self
    unfold ptext at ih ⊢
    rw [List.flatMap_cons, List.length_append, List.length_cons, List.length_cons, Nat.succ_mul]
    omega
/-- texts short enough to be gone over -/
def Sht (l : List Bs) : Prop := ∀ x ∈ l, x.length ≤ 134217728
theorem Sht.room {l : List Bs} (h : Sht l) : Room l := fun x hx => by have := h x hx; unfold maxLen; omega
set_option maxHeartbeats 2000000 in
set_option maxRecDepth 1000000 in
theorem ptxt_any (p : SRow) (W : World) (hT : tabs W) (hM : mx W) (hp : p.ok W) (hm : Sht p.l) : Calls Tryd.prog 59 #[p.v] W (PtxPost (ptxM p.l) W) := by
  have HRI := hq (pright_any p W hT hp hm.room)
  obtain ⟨o, cap, l⟩ := p
  have HPO := hq hp
  have hpc := hp.le
  have hpm := hp.cp
  have HMX := hq hM
  have HSH := hq hm
  unfold maxLen at hpm
  have HP : Hq (∀ x W', ptxM l = x → Below W.heap.size W W' → PtxPost (ptxM l) W (.returned (.tuple #[.string (st x.1), .int .i64 x.2])) W') := hq (fun x W' h1 h2 => ⟨by rw [h1], h2⟩)
  have HD : Hq (ptxM l = if pgoodB l = true then (ptext l, 0) else ([], 1)) := hq rfl
  have HG : Hq (pgoodB l = true → l.length ≤ 64) := hq (fun h => by unfold pgoodB at h; rw [Bool.and_eq_true] at h; exact of_decide_eq_true h.1)
  simp only at hpc hpm ⊢
  generalize PtxPost (ptxM l) W = PP at *
  unfold SRow.v at HRI ⊢
  simp only at HRI ⊢
  clear hp hT hM hm
  go_enter Tryd.func59, Tryd.ntmps59
  go_wp2_with fail
  refine HRI.o.mono ?_
  rintro e W1 ⟨rfl, hb1⟩
  have HB1 := hq hb1
  clear hb1 HRI
  generalize pgoodB l = good at *
  cases good with
  | false =>
    have HV := hq (HP.o ([], 1) W1 (by rw [HD.o]; rfl) HB1.o)
    clear HP HD HG
    go_wp2_with fail
    first | exact HV.o | (go_ret; exact HV.o)
  | true =>
    have h64 := HG.o rfl
    have HD2 : Hq (ptxM l = (ptext l, 0)) := hq (by rw [HD.o]; rfl)
    clear HD HG
    go_wp2_with fail
    have hbd : Bld W1.heap.size W1.heap.size [] (W1.alloc (.cells #[.pointer none, .slice none 0 0] 81)) := Lib.IsBuilderF.of (Lib.fresh_isBuilder _ _ _)
    have HBD := hq hbd
    have HB2 := hq (below_alloc W1 (.cells #[.pointer none, .slice none 0 0] 81))
    clear hbd
    go_loopg [6, 12] l.length (fun gk _ u wr => ∃ i : Nat, i + gk ≤ l.length ∧ l.length ≤ i + gk ∧ u = .int .i64 (i : Int) ∧ Hq (Bld W1.heap.size W1.heap.size (ptext (l.take i)) wr) ∧ Hq (Below W1.heap.size W1 wr))
    case atStart => exact ⟨0, by omega, by omega, rfl, HBD, HB2⟩
    case round =>
      clear HBD HB2
      obtain ⟨i, hi1, hi2, rfl, hbd, hb⟩ := hrel
      have HBW := hq (below_trans HB1.o hb.o)
      by_cases hil : i < l.length
      · have hiz : (i : Int) < (l.length : Int) := by omega
        obtain ⟨b, f, rfl, c0⟩ := strs_at HPO.o.rd HBW.o hil
        simp only at c0
        have HPT := hq (@ptext_take l i hil)
        have HLN := hq (ptext_len 134217728 (l.take i) (fun x hx => HSH.o x (List.mem_of_mem_take hx)))
        have hx := HSH.o l[i] (List.getElem_mem hil)
        have hpl := pesc_len l[i]
        have hll : (l.take i).length ≤ 64 := by rw [List.length_take]; omega
        have hpt : (ptext (l.take i)).length ≤ 64 * 268435457 := Nat.le_trans HLN.o (Nat.mul_le_mul_right _ hll)
        have HPS : Hq (psub 47 [126, 49] (psub 126 [126, 48] l[i]) = pesc l[i]) := hq rfl
        have hp1 := psub_len 126 [126, 48] (by decide) l[i]
        have hb1 := hb.o.size
        have HWB := hq (wbyte W1.heap.size W1.heap.size (ptext (l.take i)) 47 wr hbd.o (by omega) hb1)
        rw [show (((47 : UInt8).toNat : Nat) : Int) = 47 from rfl] at HWB
        generalize l[i] = x at *
        generalize ptext (l.take i) = pt at *
        clear HLN HP HD2 hbd
        go_wp2_with fail
        refine HWB.o.mono ?_
        rintro e W2 ⟨rfl, hw2, hb2, _⟩
        have HW2 := hq hw2
        have HB2 := hq (hb.o.trans hb2)
        have HB2W := hq (HB1.o.trans (HB2.o.mono HB1.o.size))
        have HR1 := hq (repl1_any 126 [126, 48] x W2 (mx_grow HMX.o HB2W.o) (by decide) rfl (by omega))
        clear HWB hw2 hb2 hb HBW c0
        go_wp2_with fail
        refine HR1.o.mono ?_
        rintro e W3 ⟨rfl, hb3⟩
        have HW3 := hq (HW2.o.below hb3)
        have HB3 := hq (below_trans HB2.o hb3)
        have HB3W := hq (HB1.o.trans (HB3.o.mono HB1.o.size))
        have HR2 := hq (repl1_any 47 [126, 49] (psub 126 [126, 48] x) W3 (mx_grow HMX.o HB3W.o) (by decide) rfl (by omega))
        rw [HPS.o] at HR2
        clear HR1 HW2 HB2 HB2W hb3
        go_wp2_with fail
        refine HR2.o.mono ?_
        rintro e W4 ⟨rfl, hb4⟩
        have HW4 := hq (HW3.o.below hb4)
        have HB4 := hq (below_trans HB3.o hb4)
        have HWS := hq (wstring W1.heap.size W1.heap.size (pt ++ [47]) (pesc x) W4 HW4.o (by rw [List.length_append, List.length_singleton]; omega) HB4.o.size)
        clear HR2 HW3 HB3 HB3W hb4 HW4
        go_wp2_with fail
        refine HWS.o.mono ?_
        rintro e W5 ⟨⟨_, rfl⟩, hw5, hb5, _⟩
        have HW5 := hq (HPT.o ▸ hw5)
        have HB5 := hq (HB4.o.trans hb5)
        clear hw5 hb5 HWS HB4
        go_wp2_with fail
        go_roundg (gk - 1)
        case measure => omega
        case rel => exact ⟨i + 1, by omega, by omega, int_eq (by omega), HW5, HB5⟩
      · have hiz : ¬ (i : Int) < (l.length : Int) := by omega
        have hw : Bld W1.heap.size W1.heap.size (ptext l) wr := by
          have := hbd.o
          rwa [List.take_of_length_le (by omega)] at this
        have HS := hq (Tryd.Builder_String_any_k W1.heap.size W1.heap.size _ wr hw hb.o.size)
        clear hw hbd
        go_wp2_with fail
        refine HS.o.mono ?_
        rintro e W6 ⟨rfl, _, h6, _⟩
        have HV := hq (HP.o (ptext l, 0) W6 HD2.o (HB1.o.trans ((hb.o.trans h6).mono HB1.o.size)))
        clear HP HD2 h6 HS hb HBW
        go_wp2_with fail
        first | exact HV.o | (go_ret; exact HV.o)
end Go.Proofs.YtmomildkopainaaDoor
