/-
  WALK: the law PointerTexts.
-/
import Derived.Test.YtabfojdieegklaaGreatDoorPxV
namespace Go.Proofs.YtabfojdieegklaaGreatDoor
open Go.RowKit

set_option maxHeartbeats 16000000 in
set_option maxRecDepth 1000000 in
theorem ptexts_any (o : Option Addr) (cap : Nat) (l : List Bs) (s : Bs) (o' : Option Addr) (cap' : Nat) (l' : List Bs) (w : World) (hE : Env w) (hM : mx w) (hp : (⟨o, cap, l⟩ : SRow).ok w) (hpt : Room l) (hs : s.length ≤ maxLen) (hp' : (⟨o', cap', l'⟩ : SRow).ok w) (hpt' : Room l') :
    Calls Tryz.prog 3 #[.slice o l.length cap, .string (st s), .slice o' l'.length cap'] w (BPost true w) := by
  have HSM := hq ((smallP_any w hE hM).mono (R' := fun e w' => e = .returned (.bool true) ∧ Below w.heap.size w w') (fun e w' h => h))
  have HSA := hq (fun V (hV : Below w.heap.size w V) => short_any o cap l V hp.le hp.cp (hp.grow hV).rd hpt)
  have HSB := hq (fun V (hV : Below w.heap.size w V) => short_any o' cap' l' V hp'.le hp'.cp (hp'.grow hV).rd hpt')
  have HTX := hq (fun V (hV : Below w.heap.size w V) (hs : ShtT l) => ptxt_any ⟨o, cap, l⟩ V (hE.grow hV).tab (mx_grow hM hV) (hp.grow hV) hs)
  have HTR := hq (fun V (hV : Below w.heap.size w V) (hs : ShtT l) => rtext7_any ⟨o, cap, l⟩ V (hp.grow hV) hs)
  have HPA := hq (fun V (hV : Below w.heap.size w V) (ht : s.length ≤ 134217728) => pparse_any s V (hE.grow hV).tab (mx_grow hM hV) ht)
  have HPR := hq (fun V (ht : s.length ≤ 1048576) => rparse7_any s V ht)
  have HIX := hq (fun V => index_step (st s) V (by rw [st_size]; exact hs))
  have HIR := hq (fun V => rindex_any (st s) V (by rw [st_size]; exact hs))
  have HRI := hq (fun V (hV : Below w.heap.size w V) => pright_any ⟨o, cap, l⟩ V (hE.grow hV).tab (hp.grow hV) hpt)
  have HRR := hq (fun V (hV : Below w.heap.size w V) => rright7_any ⟨o, cap, l⟩ V (hp.grow hV) hpt)
  have HCO := hq (fun V (hV : Below w.heap.size w V) => pcompX_any o o' cap cap' l l' V hp.le hp.cp (hp.grow hV).rd hp'.le hp'.cp (hp'.grow hV).rd)
  have HCR := hq (fun V (hV : Below w.heap.size w V) => rcompS_any o o' cap cap' l l' V hp.le hp.cp (hp.grow hV).rd hp'.le hp'.cp (hp'.grow hV).rd)
  have HSS := hq (fun (q r : SRow) V (hq' : q.ok V) (hr' : r.ok V) => rsame_any q.o r.o q.cap r.cap q.l r.l V hq'.le hq'.cp hq'.rd hr'.le hr'.cp hr'.rd)
  have HP : Hq (∀ W', Below w.heap.size w W' → BPost true w (.returned (.bool true)) W') := hq (fun W' h => ⟨rfl, h⟩)
  generalize BPost true w = PP at *
  have hal : l.length ≤ cap := hp.le
  have hacp : cap ≤ maxLen := hp.cp
  have hbl : l'.length ≤ cap' := hp'.le
  have hbcp : cap' ≤ maxLen := hp'.cp
  unfold maxLen at hacp hbcp hs
  unfold SRow.v at HTX HTR HRI HRR
  simp only at HTX HTR HRI HRR
  rw [st_list] at HIX HIR
  clear hE hM hp hpt hp' hpt'
  go_enter Tryz.func3, Tryz.ntmps3
  go_upto_region 1 with fail
  go_wp2_with fail
  refine HSM.o.mono ?_
  rintro e w1 ⟨rfl, hb1⟩
  clear HSM
  go_wp2_with fail
  refine (HSA.o w1 hb1).mono ?_
  rintro e w2 ⟨⟨va, rfl, hva⟩, rfl⟩
  have HVA := hq hva
  clear HSA hva
  cases va with
  | false =>
    have HV := hq (HP.o w2 hb1)
    clear HSB HTX HTR HPA HPR HIX HIR HRI HRR HCO HCR HSS HP
    go_wp2_with fail
    exact HV.o
  | true =>
  have HSH := hq (HVA.o rfl).sht
  clear HVA
  go_wp2_with fail
  refine (HSB.o _ hb1).mono ?_
  rintro e w3 ⟨⟨vb, rfl, hvb⟩, rfl⟩
  clear HSB hvb
  cases vb with
  | false =>
    have HV := hq (HP.o _ hb1)
    clear HTX HTR HPA HPR HIX HIR HRI HRR HCO HCR HSS HP
    go_wp2_with fail
    exact HV.o
  | true =>
  by_cases h2 : 2048 < s.length
  · have hz : (2048 : Int) < (s.length : Int) := by omega
    have HV := hq (HP.o _ hb1)
    clear HTX HTR HPA HPR HIX HIR HRI HRR HCO HCR HSS HP
    go_wp2_with fail
    exact HV.o
  have hz : ¬ (2048 : Int) < (s.length : Int) := by omega
  have hs2 : s.length ≤ 134217728 := by omega
  have hs3 : s.length ≤ 1048576 := by omega
  go_wp2_with fail
  have HC := HTX.o _ hb1 HSH.o
  unfold PtxPost at HC
  have HC2 := fun V hV => HTR.o V hV HSH.o
  unfold PtxPost at HC2
  generalize ptxM l = TX at HC HC2
  obtain ⟨T, te⟩ := TX
  simp only at HC HC2
  refine HC.mono ?_
  rintro e w4 ⟨rfl, hb4⟩
  replace hb1 := below_trans hb1 hb4
  clear HC hb4 HTX HTR HSH
  go_wp2_with fail
  refine (HC2 _ hb1).mono ?_
  rintro e w5 ⟨rfl, hb5⟩
  replace hb1 := below_trans hb1 hb5
  clear HC2 hb5
  go_wp2_with fail
  have HC := HPA.o _ hb1 hs2
  have HC2 := fun V => HPR.o V hs3
  generalize pparseM s = TX at HC HC2
  obtain ⟨L, pe⟩ := TX
  refine HC.mono ?_
  rintro e w6 ⟨o6, c6, rfl, hown6, hb6⟩
  replace hb1 := below_trans hb1 hb6
  simp only at hown6 HC2 ⊢
  have HK6 := hq (own_srow hown6)
  clear HC hb6 HPA HPR hown6
  go_wp2_with fail
  refine (HC2 _).mono ?_
  rintro e w7 ⟨o7, c7, rfl, hown7, hb7⟩
  replace hb1 := below_trans hb1 hb7
  simp only at hown7 ⊢
  have HK7 := hq (own_srow hown7)
  replace HK6 := hq (HK6.o.grow hb7)
  clear HC2 hb7 hown7
  go_wp2_with fail
  have HC := HIX.o w7
  have HC2 := HIR.o
  unfold IdxPost at HC HC2
  generalize ((indexM s).getD 0 : Nat) = ix at HC HC2
  generalize (indexM s).isSome = ib at HC HC2
  refine HC.mono ?_
  rintro e w8 ⟨rfl, hb8⟩
  replace hb1 := below_trans hb1 hb8
  replace HK6 := hq (HK6.o.grow hb8)
  replace HK7 := hq (HK7.o.grow hb8)
  clear HC hb8 HIX HIR
  go_wp2_with fail
  refine (HC2 _).mono ?_
  rintro e w9 ⟨rfl, hb9⟩
  replace hb1 := below_trans hb1 hb9
  replace HK6 := hq (HK6.o.grow hb9)
  replace HK7 := hq (HK7.o.grow hb9)
  clear HC2 hb9
  have HC := HSS.o ⟨o6, c6, L⟩ ⟨o7, c7, L⟩ w9 HK6.o HK7.o
  simp only [decide_true] at HC
  go_wp2_with fail
  refine HC.mono ?_
  rintro e w10 ⟨rfl, hb10⟩
  replace hb1 := below_trans hb1 hb10
  clear HC hb10 HK6 HK7 HSS
  have HC := HRI.o _ hb1
  have HC2 := HRR.o
  unfold BoolPost at HC HC2
  generalize pgoodB l = pg at HC HC2
  clear HRI HRR
  go_wp2_with fail
  refine HC.mono ?_
  rintro e w11 ⟨rfl, hb11⟩
  replace hb1 := below_trans hb1 hb11
  clear HC hb11
  go_wp2_with fail
  refine (HC2 _ hb1).mono ?_
  rintro e w12 ⟨rfl, hb12⟩
  replace hb1 := below_trans hb1 hb12
  clear HC2 hb12
  have HC := HCO.o _ hb1
  have HC2 := HCR.o
  unfold PcPost at HC HC2
  generalize lexM cmpB l l' = lx at HC HC2
  clear HCO HCR
  go_wp2_with fail
  refine HC.mono ?_
  rintro e w13 ⟨rfl, hb13⟩
  replace hb1 := below_trans hb1 hb13
  clear HC hb13
  go_wp2_with fail
  refine (HC2 _ hb1).mono ?_
  rintro e w14 ⟨rfl, hb14⟩
  have HV := hq (HP.o _ (below_trans hb1 hb14))
  clear HC2 hb14 HP
  go_wp2_with fail
  first | exact HV.o | (go_ret; exact HV.o) | simpa using HV.o
theorem ptexts_law (o : Option Addr) (cap : Nat) (l : List Bs) (x : ByteArray) (o' : Option Addr) (cap' : Nat) (l' : List Bs) (w : World) (hE : Env w) (hM : mx w) (hp : (⟨o, cap, l⟩ : SRow).ok w) (hpt : Room l) (hs : x.size ≤ maxLen) (hp' : (⟨o', cap', l'⟩ : SRow).ok w) (hpt' : Room l') :
    Calls Tryz.prog 3 #[.slice o l.length cap, .string x, .slice o' l'.length cap'] w fun e w' => e = .returned (.bool true) ∧ Below w.heap.size w w' := by
  have h1 := ptexts_any o cap l x.data.toList o' cap' l' w hE hM hp hpt hs hp' hpt'
  rw [st_of] at h1
  exact h1
end Go.Proofs.YtabfojdieegklaaGreatDoor
