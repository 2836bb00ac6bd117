/-
  WALK: the law PointerBack.
-/
import Derived.Test.YtabfojdieegklaaGreatDoorPx2
import Derived.Test.YtabfojdieegklaaGreatDoorPtR
namespace Go.Proofs.YtabfojdieegklaaGreatDoor
open Go.RowKit

theorem ShortL.sht {l : List Bs} (h : ShortL l) : ShtT l := fun x hx => by have := h.each x hx; omega
theorem ptxM_good {p : List Bs} (h : pgoodB p = true) : ptxM p = (ptext p, 0) := by unfold ptxM; rw [if_pos h]
theorem ptxM_bad {p : List Bs} (h : pgoodB p = false) : ptxM p = ([], 1) := by unfold ptxM; rw [if_neg (by rw [h]; simp)]
theorem short_ptext {p : List Bs} (h : ShortL p) : (ptext p).length ≤ 134217728 := by
  have h1 := ptext_len 1024 p h.each
  have h2 : p.length * (2 * 1024 + 1) ≤ 200 * (2 * 1024 + 1) := Nat.mul_le_mul_right _ h.len
  omega
set_option maxHeartbeats 16000000 in
set_option maxRecDepth 1000000 in
theorem pback_any (o : Option Addr) (cap : Nat) (l : List Bs) (s : Bs) (w : World) (hE : Env w) (hM : mx w) (hp : (⟨o, cap, l⟩ : SRow).ok w) (hpt : Room l) (hs : s.length ≤ maxLen) :
    Calls Tryz.prog 5 #[.slice o l.length cap, .string (st s)] w (BPost true w) := by
  have HSM := hq ((smallP_any w hE hM).mono (R' := fun e w' => e = .returned (.bool true) ∧ Below w.heap.size w w') (fun e w' h => h))
  have HSA := hq (fun V (hV : Below w.heap.size w V) => short_any o cap l V hp.le hp.cp (hp.grow hV).rd hpt)
  have HTX := hq (fun (q : SRow) V (hV : Below w.heap.size w V) (hq' : q.ok V) (hs : ShtT q.l) => ptxt_any q V (hE.grow hV).tab (mx_grow hM hV) hq' hs)
  have HRI := hq (fun V (hV : Below w.heap.size w V) => pright_any ⟨o, cap, l⟩ V (hE.grow hV).tab (hp.grow hV) hpt)
  have HPA := hq (fun (t : Bs) V (hV : Below w.heap.size w V) (ht : t.length ≤ 134217728) => pparse_any t V (hE.grow hV).tab (mx_grow hM hV) ht)
  have HSS := hq (fun (q : SRow) V (hV : Below w.heap.size w V) (hq' : q.ok V) => rsame_any q.o o q.cap cap q.l l V hq'.le hq'.cp hq'.rd hp.le hp.cp (hp.grow hV).rd)
  have HOL := hq (fun V (hV : Below w.heap.size w V) => hp.grow hV)
  have HP : Hq (∀ W', Below w.heap.size w W' → BPost true w (.returned (.bool true)) W') := hq (fun W' h => ⟨rfl, h⟩)
  generalize BPost true w = PP at *
  have hal : l.length ≤ cap := hp.le
  have hacp : cap ≤ maxLen := hp.cp
  unfold maxLen at hacp hs
  clear hE hM hp hpt
  go_enter Tryz.func5, Tryz.ntmps5
  go_upto_region 1 with fail
  go_wp2_with fail
  refine HSM.o.mono ?_
  rintro e w1 ⟨rfl, hb1⟩
  clear HSM
  go_wp2_with fail
  refine (HSA.o w1 hb1).mono ?_
  rintro e w2 ⟨⟨va, rfl, hva⟩, rfl⟩
  have HVA := hq hva
  clear HSA hva
  cases va with
  | false =>
    have HV := hq (HP.o w2 hb1)
    clear HTX HRI HPA HSS HOL HP
    go_wp2_with fail
    exact HV.o
  | true =>
    have HSH := hq (HVA.o rfl)
    clear HVA
    by_cases h2 : 2048 < s.length
    · have hz : (2048 : Int) < (s.length : Int) := by omega
      have HV := hq (HP.o w2 hb1)
      clear HTX HRI HPA HSS HOL HP
      go_wp2_with fail
      exact HV.o
    · have hz : ¬ (2048 : Int) < (s.length : Int) := by omega
      have hs2 : s.length ≤ 134217728 := by omega
      go_wp2_with fail
      have HC := HTX.o ⟨o, cap, l⟩ _ hb1 (HOL.o _ hb1) HSH.o.sht
      unfold PtxPost SRow.v at HC
      simp only at HC
      have HR := fun V hV => HRI.o V hV
      unfold BoolPost SRow.v at HR
      simp only at HR
      cases hg : pgoodB l with
      | false =>
        rw [ptxM_bad hg] at HC
        rw [hg] at HR
        refine HC.mono ?_
        rintro e w3 ⟨rfl, hb3⟩
        replace hb1 := below_trans hb1 hb3
        clear HC hb3 hg
        go_wp2_with fail
        refine (HR _ hb1).mono ?_
        rintro e w4 ⟨rfl, hb4⟩
        replace hb1 := below_trans hb1 hb4
        clear HR hb4
        go_wp2_with fail
        have HC := HPA.o s _ hb1 hs2
        generalize hX : pparseM s = X at HC
        obtain ⟨L, er⟩ := X
        refine HC.mono ?_
        rintro e w8 ⟨o8, c8, rfl, hown8, hb8⟩
        replace hb1 := below_trans hb1 hb8
        simp only at hown8 ⊢
        clear HC hb8
        by_cases he : er = 0
        · subst he
          obtain ⟨hg8, ht8⟩ := ptext_pparse hX
          have hsh8 : ShtT L := by have := pparse_sht s hs2; rw [hX] at this; exact this
          have HC := HTX.o ⟨o8, c8, L⟩ _ hb1 (own_srow hown8) hsh8
          unfold PtxPost SRow.v at HC
          rw [ptxM_good hg8, ht8] at HC
          clear hX hg8 ht8 hsh8 hown8 HPA HSS HOL HTX HRI HSH
          go_wp2_with fail
          refine HC.mono ?_
          rintro e w9 ⟨rfl, hb9⟩
          have HV := hq (HP.o _ (below_trans hb1 hb9))
          clear HC hb9 HP
          go_wp2_with fail
          first | exact HV.o | (go_ret; exact HV.o)
        · obtain ⟨h1, h2⟩ := pparse_fail hX he
          subst h1
          have e1 : (er == 0) = false := beq_eq_false_iff_ne.2 he
          have e1' : (er != 0) = true := by rw [bne, e1]; rfl
          have e2 : (s == []) = false := beq_eq_false_iff_ne.2 h2
          have HV := hq (HP.o _ hb1)
          clear hX hown8 HPA HSS HOL HTX HRI HSH HP
          go_wp2_with fail
          first | exact HV.o | (go_ret; exact HV.o)
      | true =>
        rw [ptxM_good hg] at HC
        rw [hg] at HR
        have hbk := pparse_ptext hg
        have hlen := short_ptext HSH.o
        refine HC.mono ?_
        rintro e w3 ⟨rfl, hb3⟩
        replace hb1 := below_trans hb1 hb3
        simp only
        generalize ptext l = T at *
        clear HC hb3 hg
        go_wp2_with fail
        refine (HR _ hb1).mono ?_
        rintro e w4 ⟨rfl, hb4⟩
        replace hb1 := below_trans hb1 hb4
        clear HR hb4
        go_wp2_with fail
        have HC := HPA.o T _ hb1 hlen
        rw [hbk] at HC
        refine HC.mono ?_
        rintro e w5 ⟨o5, c5, rfl, hown5, hb5⟩
        replace hb1 := below_trans hb1 hb5
        simp only at hown5 ⊢
        clear HC hb5 hbk hlen
        go_wp2_with fail
        have HC := HSS.o ⟨o5, c5, l⟩ _ hb1 (own_srow hown5)
        simp only [decide_true] at HC
        refine HC.mono ?_
        rintro e w6 ⟨rfl, hb6⟩
        replace hb1 := below_trans hb1 hb6
        clear HC hb6 hown5
        go_wp2_with fail
        have HC := HPA.o s _ hb1 hs2
        generalize hX : pparseM s = X at HC
        obtain ⟨L, er⟩ := X
        refine HC.mono ?_
        rintro e w8 ⟨o8, c8, rfl, hown8, hb8⟩
        replace hb1 := below_trans hb1 hb8
        simp only at hown8 ⊢
        clear HC hb8
        by_cases he : er = 0
        · subst he
          obtain ⟨hg8, ht8⟩ := ptext_pparse hX
          have hsh8 : ShtT L := by have := pparse_sht s hs2; rw [hX] at this; exact this
          have HC := HTX.o ⟨o8, c8, L⟩ _ hb1 (own_srow hown8) hsh8
          unfold PtxPost SRow.v at HC
          rw [ptxM_good hg8, ht8] at HC
          clear hX hg8 ht8 hsh8 hown8 HPA HSS HOL HTX HRI HSH
          go_wp2_with fail
          refine HC.mono ?_
          rintro e w9 ⟨rfl, hb9⟩
          have HV := hq (HP.o _ (below_trans hb1 hb9))
          clear HC hb9 HP
          go_wp2_with fail
          first | exact HV.o | (go_ret; exact HV.o)
        · obtain ⟨h1, h2⟩ := pparse_fail hX he
          subst h1
          have e1 : (er == 0) = false := beq_eq_false_iff_ne.2 he
          have e1' : (er != 0) = true := by rw [bne, e1]; rfl
          have e2 : (s == []) = false := beq_eq_false_iff_ne.2 h2
          have HV := hq (HP.o _ hb1)
          clear hX hown8 HPA HSS HOL HTX HRI HSH HP
          go_wp2_with fail
          first | exact HV.o | (go_ret; exact HV.o)
theorem pback_law (o : Option Addr) (cap : Nat) (l : List Bs) (x : ByteArray) (w : World) (hE : Env w) (hM : mx w) (hp : (⟨o, cap, l⟩ : SRow).ok w) (hpt : Room l) (hs : x.size ≤ maxLen) :
    Calls Tryz.prog 5 #[.slice o l.length cap, .string x] w fun e w' => e = .returned (.bool true) ∧ Below w.heap.size w w' := by
  have h1 := pback_any o cap l x.data.toList w hE hM hp hpt hs
  rw [st_of] at h1
  exact h1
end Go.Proofs.YtabfojdieegklaaGreatDoor
