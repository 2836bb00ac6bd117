/-
  WALKS: mark.Encode.
-/
import Derived.Test.YtekihjffefokjaaDoorMkW
import Derived.Test.YtekihjffefokjaaDoorBldS
import Derived.Test.YtekihjffefokjaaDoorItoas
import Derived.Deep.DeepCutAuto
namespace Go.Proofs.YtekihjffefokjaaDoor
open Go.RowKit

theorem wrote_whole {B b g : Nat} {l : Bs} {w w' : World} {cs : Array Value} (h : Wrote B b l w w') (hW : Whole w g 53 cs) (hg : g ≠ b) : Whole w' g 53 cs :=
  h.2.2 g _ hW (fun e => hg (Option.some.inj e)) (fun c fz e => by injection e with _ h2; exact absurd h2 (by decide))
def EncPost (l : List MPart) (w : World) (e : Ending) (w' : World) : Prop :=
  e = .returned (.tuple #[.string (st (if rightB l = true then encM l else [])), .int .i64 (if rightB l = true then 0 else 1)]) ∧ Below w.heap.size w w'
def headIf (b : Bool) (n : Nat) : Bs := if b = true then headB n else []
theorem itoa_nat (n : Nat) : Lib.itoa (n : Int) = Lib.decDigits n := by
  unfold Lib.itoa
  rw [if_neg (by omega)]
  simp
abbrev partCs (x : MPart) : Array Value := #[.bool x.hunk, .string (st x.text), .string (st x.s0), .string (st x.s1), .string (st x.s2)]

/-- what is written of a hunk ahead of its k-th mark -/
def pieceM (n : Nat) (x : MPart) : Nat → Bs
  | 0 => []
  | 1 => mrk 60 n ++ x.s1
  | 2 => mrk 60 n ++ (x.s1 ++ (mrk 124 n ++ x.s0))
  | _ => mrk 60 n ++ (x.s1 ++ (mrk 124 n ++ (x.s0 ++ (mrk 61 n ++ x.s2))))
theorem piece_all {n : Nat} {x : MPart} (h : x.hunk = true) : pieceM n x 3 ++ mrk 62 n = partB n x := by
  unfold partB
  rw [if_pos h]
  show (mrk 60 n ++ (x.s1 ++ (mrk 124 n ++ (x.s0 ++ (mrk 61 n ++ x.s2))))) ++ mrk 62 n = _
  simp only [List.append_assoc]
theorem piece_1 (n : Nat) (x : MPart) : (pieceM n x 0 ++ mrk 60 n) ++ x.s1 = pieceM n x 1 := by show ([] ++ mrk 60 n) ++ x.s1 = mrk 60 n ++ x.s1; rw [List.nil_append]
theorem piece_2 (n : Nat) (x : MPart) : (pieceM n x 1 ++ mrk 124 n) ++ x.s0 = pieceM n x 2 := by
  show ((mrk 60 n ++ x.s1) ++ mrk 124 n) ++ x.s0 = mrk 60 n ++ (x.s1 ++ (mrk 124 n ++ x.s0))
  simp only [List.append_assoc]
theorem piece_3 (n : Nat) (x : MPart) : (pieceM n x 2 ++ mrk 61 n) ++ x.s2 = pieceM n x 3 := by
  show ((mrk 60 n ++ (x.s1 ++ (mrk 124 n ++ x.s0))) ++ mrk 61 n) ++ x.s2 = mrk 60 n ++ (x.s1 ++ (mrk 124 n ++ (x.s0 ++ (mrk 61 n ++ x.s2))))
  simp only [List.append_assoc]
theorem piece_le {n : Nat} {x : MPart} (h : x.hunk = true) (k : Nat) (hk : k ≤ 3) : (pieceM n x k).length + (n + 2) ≤ (partB n x).length := by
  have h3 := congrArg List.length (piece_all (n := n) h)
  have e1 := congrArg List.length (piece_1 n x)
  have e2 := congrArg List.length (piece_2 n x)
  have e3 := congrArg List.length (piece_3 n x)
  simp only [List.length_append, mrk_len] at h3 e1 e2 e3
  have : k = 0 ∨ k = 1 ∨ k = 2 ∨ k = 3 := by omega
  rcases this with rfl | rfl | rfl | rfl <;> omega
theorem okL_text : ∀ (l : List MPart) (a : Bool), okL a l → ∀ x ∈ l, x.hunk = true → x.text = []
  | [], _, _, x, hx, _ => by cases hx
  | y :: l, a, h, x, hx, hh => by
    unfold okL at h
    rcases List.mem_cons.1 hx with rfl | hx
    · rw [if_pos hh] at h; exact h.1
    · split at h
      · exact okL_text l true h.2 x hx hh
      · exact okL_text l false h.2.2.2.2.2 x hx hh

set_option maxHeartbeats 4000000 in
set_option maxRecDepth 1000000 in
theorem encode_any (o : Option Addr) (cap : Nat) (l : List MPart) (w : World) (hm : mx w) (hI : ∀ n : Nat, n ≤ 4294967290 → Itoas n w) (hl : l.length ≤ cap) (hc : cap ≤ maxLen) (hin : PartsIn w o l) (hs : ∀ x ∈ l, Short32 x) (hE0 : rightB l = true → (encM l).length ≤ 1099511627776) (hwd : widthM l ≤ 4294967290) :
    Calls Tryd.prog 24 #[.slice o l.length cap] w (EncPost l w) := by
  have HRT := hq (mright_any o cap l w hl hc hin)
  have HIN := hq hin
  have HM := hq hm
  have HI := hq hI
  have HS := hq hs
  have hc0 := hc
  unfold maxLen at hc
  clear hin hm hI hs
  cases hR : rightB l with
  | false =>
    rw [hR] at HRT
    have HP : Hq (∀ w', Below w.heap.size w w' → EncPost l w (.returned (.tuple #[.string ⟨#[]⟩, .int .i64 1])) w') := hq (fun w' h => ⟨by rw [hR]; rfl, h⟩)
    clear hR HI HS HM HIN
    go_enter Tryd.func24, Tryd.ntmps24
    go_wp2_with fail
    refine HRT.o.mono ?_
    rintro e w1 ⟨rfl, hb1⟩
    clear HRT
    go_wp2_with fail
    go_ret2
    exact HP.o _ hb1
  | true =>
    rw [hR] at HRT
    have hE := hE0 hR
    clear hE0
    have hok := (okB_iff l true).1 (by unfold rightB at hR; rw [Bool.and_eq_true] at hR; exact hR.2)
    have HP : Hq (∀ w', Below w.heap.size w w' → EncPost l w (.returned (.tuple #[.string (st (encM l)), .int .i64 0])) w') := hq (fun w' h => ⟨by rw [hR]; rfl, h⟩)
    have HEN : Hq (encM l = headIf (anyH l) (widthM l) ++ encGo (widthM l) (l.drop 0)) := hq rfl
    have HOK := hq hok
    have h7 := widthM_7 l
    clear hR hok
    generalize EncPost l w = PP at *
    go_enter Tryd.func24, Tryd.ntmps24
    go_wp2_with fail
    refine HRT.o.mono ?_
    rintro e w1 ⟨rfl, hb1⟩
    have HB1 := hq hb1
    have hbd : Bld w1.heap.size w1.heap.size [] (w1.alloc (.cells #[.pointer none, .slice none 0 0] 71)) := Lib.IsBuilderF.of (Lib.fresh_isBuilder _ _ _)
    have hbA := below_alloc w1 (.cells #[.pointer none, .slice none 0 0] 71)
    have HBD := hq hbd
    have HBA := hq hbA
    have HINA := hq (HIN.o.grow (below_trans hb1 hbA))
    clear HRT hb1 hbd hbA
    go_wp2_with fail
    generalize w1.alloc (.cells #[.pointer none, .slice none 0 0] 71) = wa at *
    refine (width_any o cap l _ (mx_below HM.o (below_trans HB1.o HBA.o) (mx_lt HM.o)) hl hc0 HINA.o HS.o).mono ?_
    rintro e w2 ⟨rfl, hb2⟩
    have HBD2 := hq (HBD.o.below hb2)
    have HB2 := hq (below_trans HBA.o hb2)
    have HIN2 := hq (HINA.o.grow hb2)
    clear hb2 HBD HBA HINA
    go_wp2_with fail
    refine (hunks_any o cap l _ hl hc0 HIN2.o).mono ?_
    rintro e w3 ⟨rfl, hb3⟩
    have HBD3 := hq (HBD2.o.below hb3)
    have HB3 := hq (below_trans HB2.o hb3)
    clear hb3 HBD2 HB2 HIN2
    generalize hN : w1.heap.size = N at *
    have HW3 := hq (below_trans HB1.o (by rw [hN]; exact HB3.o))
    have HNW : Hq (w.heap.size ≤ N) := hq (by rw [← hN]; exact HB1.o.size)
    have HN3 : Hq (N ≤ w3.heap.size) := hq (by rw [← hN]; exact HB3.o.size)
    clear HB1 hN
    have HID : Hq (anyH l = anyH l) := hq rfl
    generalize hB : anyH l = B at *
    have HBB := hq hB
    clear hB HID
    generalize hn : widthM l = n at *
    have HWN := hq hn
    clear hn
    go_upto_if 15 with fail
    -- CUT
    go_cut [] (fun wx => Hq (Bld N N (headIf B n) wx) ∧ Hq (Below N w3 wx))
    case first =>
      cases B with
      | false =>
        go_wp2_with fail
        go_meet
        exact ⟨HBD3, hq (Below.refl _ _)⟩
      | true =>
        have hN3 : N ≤ w3.heap.size := HN3.o
        have HIT := hq (HI.o n hwd _ HW3.o)
        have hil : (st (Lib.itoa (n : Int))).size ≤ 1000 := by rw [st_size]; exact Nat.le_trans (Lib.itoa_length_le _ (by omega) (by omega)) (by omega)
        have HCT : Hq ((st headL ++ st (Lib.itoa (n : Int))) ++ st [10] = st (headB n)) := hq (by rw [cat_st, cat_st, itoa_nat]; unfold headB; rw [List.append_assoc])
        have hhl : (headB n).length ≤ 1100 := by have := congrArg ByteArray.size HCT.o; rw [ByteArray.size_append, ByteArray.size_append, st_size [10], st_size headL, st_size (headB n)] at this; simp only [headL, List.length_cons, List.length_nil] at this; omega
        have HWS := hq (fun W (hb : Below w3.heap.size w3 W) => wstring N N [] (headB n) W (HBD3.o.below hb) (by simp only [List.length_nil]; omega) (Nat.le_trans hN3 hb.size))
        rw [← HCT.o] at HWS
        have hle : st headL = (⟨#[35, 109, 97, 114, 107, 115, 32]⟩ : ByteArray) := rfl
        rw [hle] at HWS
        clear HBD3 HI HCT hle
        generalize st (Lib.itoa (n : Int)) = SI at *
        go_wp2_with fail
        refine HIT.o.mono ?_
        rintro e w4 ⟨rfl, hb4⟩
        have HB4 := hq hb4
        clear hb4 HIT
        go_wp2_with fail
        refine (HWS.o _ HB4.o).mono ?_
        rintro e w5 ⟨⟨nn, rfl⟩, hw5⟩
        have HB5 := hq ((HB4.o.mono hN3).trans hw5.2.1)
        have HD5 := hq hw5.1
        clear HWS hw5 HB4
        go_wp2_with fail
        go_meet
        exact ⟨HD5, HB5⟩
    case rest =>
      obtain ⟨HD, HBC⟩ := hcut
      have HEL := hq (show (encM l).length ≤ 1099511627776 from hE)
      clear HBD3 HI hE
      generalize encM l = E at *
      go_wp2_with fail
      go_loopw [23] (fun i wr => ∃ (k : Nat) (acc : Bs), k ≤ l.length ∧ i = .int .i64 (k : Int) ∧ Hq (Bld N N acc wr) ∧ Hq (E = acc ++ encGo n (l.drop k)) ∧ Hq (Below N w3 wr)) (fun i _ => l.length - (intOf i).toNat)
      case atStart => exact ⟨0, headIf B n, Nat.zero_le _, rfl, HD, HEN, HBC⟩
      case round =>
        obtain ⟨k, acc, hk, rfl, hd, he, hb⟩ := hrel
        clear HD HEN HBC
        by_cases h : k < l.length
        · obtain ⟨b, f, rfl, hp⟩ := HIN.o k h
          obtain ⟨c0, c1, c2, c3, c4⟩ := hp.grow (HW3.o.trans (hb.o.mono HNW.o))
          have hNr : N ≤ wr.heap.size := Nat.le_trans HN3.o hb.o.size
          have HTX := hq (okL_text l true HOK.o l[k] (List.getElem_mem h))
          have HE2 : Hq (E = acc ++ (partB n l[k] ++ encGo n (l.drop (k + 1)))) := hq (by rw [he.o, encGo_step h])
          clear he hp HIN HS HOK
          generalize l[k] = x at *
          have hlen : acc.length + (partB n x).length ≤ 1099511627776 := by have := HEL.o; rw [HE2.o, List.length_append, List.length_append] at this; omega
          have HXB := hq (Whole.made wr 53 (partCs x))
          have hgN : wr.heap.size ≠ N := by have := hd.o.lt; omega
          have HDX := hq (hd.o.below (below_alloc wr (.cells (partCs x) 53)))
          have HBX := hq (hb.o.alloc (Nat.le_trans (by have := HN3.o; omega) hb.o.size) (.cells (partCs x) 53))
          have HNX : Hq (N ≤ (wr.alloc (.cells (partCs x) 53)).heap.size) := hq (by rw [World.size_alloc]; omega)
          clear hd hb
          cases hx : x.hunk with
          | false =>
            obtain ⟨xh, T, s0, s1, s2⟩ := x
            simp only at hx
            subst hx
            have hpt : (partB n ⟨false, T, s0, s1, s2⟩).length = T.length := by rw [partB_text rfl]
            have HWS := hq (wstring N N acc T _ HDX.o (by omega) HNX.o)
            have HN : Hq (E = (acc ++ T) ++ encGo n (l.drop (k + 1))) := hq (by rw [HE2.o, partB_text rfl, List.append_assoc])
            have HXC := hq (fun w5 (h : Wrote N N (acc ++ T) (wr.alloc (.cells (partCs ⟨false, T, s0, s1, s2⟩) 53)) w5) => wrote_whole h HXB.o hgN)
            unfold partCs at HXC HWS HBX
            simp only at HXC HWS HBX
            clear HE2 HTX HXB HDX HNX hpt
            go_wp2_with fail
            refine HWS.o.mono ?_
            rintro e w5 ⟨⟨nn, rfl⟩, hw5⟩
            have hxc := HXC.o _ hw5
            have x0 := hxc.at_ 0
            have HB5 := hq (HBX.o.trans hw5.2.1)
            have HD5 := hq hw5.1
            clear HWS hw5 HXC hxc
            go_wp2_with fail
            go_roundw
            case rel => exact ⟨k + 1, acc ++ T, h, int_eq (by omega), HD5, HN, HB5⟩
            case measure => simp [intOf]; omega
          | true =>
            obtain ⟨xh, xt, s0, s1, s2⟩ := x
            simp only at hx
            subst hx
            obtain rfl : xt = [] := HTX.o rfl
            have hpl : ∀ j, j ≤ 3 → (pieceM n ⟨true, [], s0, s1, s2⟩ j).length + (n + 2) ≤ (partB n ⟨true, [], s0, s1, s2⟩).length := fun j hj => piece_le rfl j hj
            have hpn : ∀ j : Int, 0 ≤ j → j ≤ 3 → acc.length + (pieceM n ⟨true, [], s0, s1, s2⟩ j.toNat).length + (n + 2) ≤ 1099511627776 := fun j h1 h2 => by have := hpl j.toNat (by omega); omega
            have HPN := hq hpn
            have HLS := hq (fun (t : Bs) (h : t.length ≤ 4294967280) => h)
            have HPA : Hq (E = ((acc ++ pieceM n ⟨true, [], s0, s1, s2⟩ 3) ++ mrk 62 n) ++ encGo n (l.drop (k + 1))) := hq (by rw [HE2.o, List.append_assoc acc, piece_all rfl, List.append_assoc])
            have P1 := hq (piece_1 n ⟨true, [], s0, s1, s2⟩)
            have P2 := hq (piece_2 n ⟨true, [], s0, s1, s2⟩)
            have P3 := hq (piece_3 n ⟨true, [], s0, s1, s2⟩)
            have hp0 : Hq (pieceM n ⟨true, [], s0, s1, s2⟩ 0 = []) := hq rfl
            have HMK := hq (fun (z : Int) (hz : z = 0 ∨ z = 1 ∨ z = 2 ∨ z = 3) W => mark_any z n hz hwd W)
            have HSD := hq (fun (z : Int) (hz : z = 0 ∨ z = 1 ∨ z = 2) W => side_any z hz W)
            have HWS := hq (wstring N N acc [] _ HDX.o (by simp only [List.length_nil]; omega) HNX.o)
            rw [List.append_nil] at HWS
            have HXC := hq (fun w5 (h : Wrote N N acc (wr.alloc (.cells (partCs ⟨true, [], s0, s1, s2⟩) 53)) w5) => wrote_whole h HXB.o hgN)
            have h0l : ∀ (t : Bs) j, j ≤ 3 → t.length ≤ (partB n ⟨true, [], s0, s1, s2⟩).length → acc.length + t.length ≤ 1099511627776 := fun t j _ ht => by omega
            clear HE2 HTX HXB HDX HNX hpl hpn h0l
            generalize pieceM n ⟨true, [], s0, s1, s2⟩ = PM at *
            unfold partCs at HXC HWS HBX
            simp only at HXC HWS HBX P1 P2 P3
            go_wp2_with fail
            refine HWS.o.mono ?_
            rintro e w5 ⟨⟨nn, rfl⟩, hw5⟩
            have HX5 := hq (HXC.o _ hw5)
            have x0 := HX5.o.at_ 0
            have HB5 := hq (HBX.o.trans hw5.2.1)
            have HD5 := hq hw5.1
            clear HWS hw5 HXC HBX
            generalize wr.heap.size = g at *
            go_wp2_with fail
            clear x0
            go_loopw [33] (fun i wz => ∃ z : Int, 0 ≤ z ∧ z ≤ 3 ∧ i = .int .i64 z ∧ Hq (Bld N N (acc ++ PM z.toNat) wz) ∧ Hq (Below N w3 wz) ∧ Hq (Whole wz g 53 #[.bool true, .string (st []), .string (st s0), .string (st s1), .string (st s2)])) (fun i _ => 3 - (intOf i).toNat)
            case atStart => exact ⟨0, by omega, by omega, rfl, hq (by show Bld N N (acc ++ PM 0) w5; rw [hp0.o, List.append_nil]; exact HD5.o), HB5, HX5⟩
            case round =>
              obtain ⟨z, hz0, hz3, rfl, hdz, hbz, hxz⟩ := hrel
              clear HD5 HB5 HX5 hp0
              have hpb := HPN.o z hz0 hz3
              have hNz : N ≤ wr.heap.size := Nat.le_trans HN3.o hbz.o.size
              by_cases hlt : z < 3
              · have hzz : z = 0 ∨ z = 1 ∨ z = 2 := by omega
                rcases hzz with rfl | rfl | rfl
                · have HM1 := hq (fun W => HMK.o 0 (by omega) W)
                  have HS1 := hq (fun W => HSD.o 0 (by omega) W)
                  have hpq := HPN.o 1 (by omega) (by omega)
                  have P1' : Hq ((acc ++ PM 0) ++ mrk 60 n ++ s1 = acc ++ PM 1) := hq (by rw [List.append_assoc acc, List.append_assoc acc, P1.o])
                  have hlp : ((acc ++ PM 0) ++ mrk 60 n ++ s1).length ≤ 1099511627776 := by rw [P1'.o, List.length_append]; have : (PM (Int.toNat 1)).length = (PM 1).length := rfl; omega
                  simp only [List.length_append, mrk_len] at hlp
                  have hza : Hq (Bld N N (acc ++ PM 0) wr) := hdz
                  clear HMK HSD hdz hpb hpq P1 P2 P3 HPA
                  go_wp2_with fail
                  refine (HM1.o _).mono ?_
                  rintro e w6 ⟨rfl, hb6⟩
                  have HWA := hq (wstring N N (acc ++ PM 0) (mrk 60 n) w6 (hza.o.below hb6) (by rw [List.length_append, mrk_len]; omega) (Nat.le_trans hNz hb6.size))
                  have HX6 := hq (hxz.o.grow hb6)
                  have HB6 := hq (hbz.o.trans (hb6.mono hNz))
                  clear hb6 hza hxz hbz HM1
                  have hsg : sgnOf 0 = 60 := rfl
                  rw [hsg]
                  clear hsg
                  go_wp2_with fail
                  refine HWA.o.mono ?_
                  rintro e w7 ⟨⟨nn, rfl⟩, hw7⟩
                  have HX7 := hq (wrote_whole hw7 HX6.o hgN)
                  have HB7 := hq (HB6.o.trans hw7.2.1)
                  have HD7 := hq hw7.1
                  clear HWA hw7 HX6 HB6
                  have y0 := HX7.o.at_ 3
                  go_wp2_with fail
                  refine (HS1.o _).mono ?_
                  rintro e w' ⟨rfl, rfl⟩
                  clear HS1
                  have HWB := hq (wstring N N ((acc ++ PM 0) ++ mrk 60 n) s1 w7 HD7.o (by rw [List.length_append, List.length_append, mrk_len]; omega) (Nat.le_trans HN3.o HB7.o.size))
                  go_wp2_with fail
                  refine HWB.o.mono ?_
                  rintro e w8 ⟨⟨nn, rfl⟩, hw8⟩
                  have HX8 := hq (wrote_whole hw8 HX7.o hgN)
                  have HB8 := hq (HB7.o.trans hw8.2.1)
                  have HD8 : Hq (Bld N N (acc ++ PM 1) w8) := hq (by rw [← P1'.o]; exact hw8.1)
                  clear HWB hw8 HX7 HB7 HD7 y0
                  go_wp2_with fail
                  go_roundw
                  case rel => exact ⟨1, by omega, by omega, rfl, HD8, HB8, HX8⟩
                  case measure => simp [intOf]
                · have HM1 := hq (fun W => HMK.o 1 (by omega) W)
                  have HS1 := hq (fun W => HSD.o 1 (by omega) W)
                  have hpq := HPN.o 2 (by omega) (by omega)
                  have P2' : Hq ((acc ++ PM 1) ++ mrk 124 n ++ s0 = acc ++ PM 2) := hq (by rw [List.append_assoc acc, List.append_assoc acc, P2.o])
                  have hlp : ((acc ++ PM 1) ++ mrk 124 n ++ s0).length ≤ 1099511627776 := by rw [P2'.o, List.length_append]; have : (PM (Int.toNat 2)).length = (PM 2).length := rfl; omega
                  simp only [List.length_append, mrk_len] at hlp
                  have hza : Hq (Bld N N (acc ++ PM 1) wr) := hdz
                  clear HMK HSD hdz hpb hpq P1 P2 P3 HPA
                  go_wp2_with fail
                  refine (HM1.o _).mono ?_
                  rintro e w6 ⟨rfl, hb6⟩
                  have HWA := hq (wstring N N (acc ++ PM 1) (mrk 124 n) w6 (hza.o.below hb6) (by rw [List.length_append, mrk_len]; omega) (Nat.le_trans hNz hb6.size))
                  have HX6 := hq (hxz.o.grow hb6)
                  have HB6 := hq (hbz.o.trans (hb6.mono hNz))
                  clear hb6 hza hxz hbz HM1
                  have hsg : sgnOf 1 = 124 := rfl
                  rw [hsg]
                  clear hsg
                  go_wp2_with fail
                  refine HWA.o.mono ?_
                  rintro e w7 ⟨⟨nn, rfl⟩, hw7⟩
                  have HX7 := hq (wrote_whole hw7 HX6.o hgN)
                  have HB7 := hq (HB6.o.trans hw7.2.1)
                  have HD7 := hq hw7.1
                  clear HWA hw7 HX6 HB6
                  have y0 := HX7.o.at_ 2
                  go_wp2_with fail
                  refine (HS1.o _).mono ?_
                  rintro e w' ⟨rfl, rfl⟩
                  clear HS1
                  have HWB := hq (wstring N N ((acc ++ PM 1) ++ mrk 124 n) s0 w7 HD7.o (by rw [List.length_append, List.length_append, mrk_len]; omega) (Nat.le_trans HN3.o HB7.o.size))
                  go_wp2_with fail
                  refine HWB.o.mono ?_
                  rintro e w8 ⟨⟨nn, rfl⟩, hw8⟩
                  have HX8 := hq (wrote_whole hw8 HX7.o hgN)
                  have HB8 := hq (HB7.o.trans hw8.2.1)
                  have HD8 : Hq (Bld N N (acc ++ PM 2) w8) := hq (by rw [← P2'.o]; exact hw8.1)
                  clear HWB hw8 HX7 HB7 HD7 y0
                  go_wp2_with fail
                  go_roundw
                  case rel => exact ⟨2, by omega, by omega, rfl, HD8, HB8, HX8⟩
                  case measure => simp [intOf]
                · have HM1 := hq (fun W => HMK.o 2 (by omega) W)
                  have HS1 := hq (fun W => HSD.o 2 (by omega) W)
                  have hpq := HPN.o 3 (by omega) (by omega)
                  have P3' : Hq ((acc ++ PM 2) ++ mrk 61 n ++ s2 = acc ++ PM 3) := hq (by rw [List.append_assoc acc, List.append_assoc acc, P3.o])
                  have hlp : ((acc ++ PM 2) ++ mrk 61 n ++ s2).length ≤ 1099511627776 := by rw [P3'.o, List.length_append]; have : (PM (Int.toNat 3)).length = (PM 3).length := rfl; omega
                  simp only [List.length_append, mrk_len] at hlp
                  have hza : Hq (Bld N N (acc ++ PM 2) wr) := hdz
                  clear HMK HSD hdz hpb hpq P1 P2 P3 HPA
                  go_wp2_with fail
                  refine (HM1.o _).mono ?_
                  rintro e w6 ⟨rfl, hb6⟩
                  have HWA := hq (wstring N N (acc ++ PM 2) (mrk 61 n) w6 (hza.o.below hb6) (by rw [List.length_append, mrk_len]; omega) (Nat.le_trans hNz hb6.size))
                  have HX6 := hq (hxz.o.grow hb6)
                  have HB6 := hq (hbz.o.trans (hb6.mono hNz))
                  clear hb6 hza hxz hbz HM1
                  have hsg : sgnOf 2 = 61 := rfl
                  rw [hsg]
                  clear hsg
                  go_wp2_with fail
                  refine HWA.o.mono ?_
                  rintro e w7 ⟨⟨nn, rfl⟩, hw7⟩
                  have HX7 := hq (wrote_whole hw7 HX6.o hgN)
                  have HB7 := hq (HB6.o.trans hw7.2.1)
                  have HD7 := hq hw7.1
                  clear HWA hw7 HX6 HB6
                  have y0 := HX7.o.at_ 4
                  go_wp2_with fail
                  refine (HS1.o _).mono ?_
                  rintro e w' ⟨rfl, rfl⟩
                  clear HS1
                  have HWB := hq (wstring N N ((acc ++ PM 2) ++ mrk 61 n) s2 w7 HD7.o (by rw [List.length_append, List.length_append, mrk_len]; omega) (Nat.le_trans HN3.o HB7.o.size))
                  go_wp2_with fail
                  refine HWB.o.mono ?_
                  rintro e w8 ⟨⟨nn, rfl⟩, hw8⟩
                  have HX8 := hq (wrote_whole hw8 HX7.o hgN)
                  have HB8 := hq (HB7.o.trans hw8.2.1)
                  have HD8 : Hq (Bld N N (acc ++ PM 3) w8) := hq (by rw [← P3'.o]; exact hw8.1)
                  clear HWB hw8 HX7 HB7 HD7 y0
                  go_wp2_with fail
                  go_roundw
                  case rel => exact ⟨3, by omega, by omega, rfl, HD8, HB8, HX8⟩
                  case measure => simp [intOf]
              · obtain rfl : z = 3 := by omega
                have HM1 := hq (fun W => HMK.o 3 (by omega) W)
                have hza : Hq (Bld N N (acc ++ PM 3) wr) := hdz
                have hl3 : (acc ++ PM 3).length + (n + 2) ≤ 1099511627776 := by rw [List.length_append]; have : (PM (Int.toNat 3)).length = (PM 3).length := rfl; omega
                clear HMK HSD hdz hpb P1 P2 P3
                go_wp2_with fail
                refine (HM1.o _).mono ?_
                rintro e w6 ⟨rfl, hb6⟩
                have HWA := hq (wstring N N (acc ++ PM 3) (mrk 62 n) w6 (hza.o.below hb6) (by rw [mrk_len]; omega) (Nat.le_trans hNz hb6.size))
                have HB6 := hq (hbz.o.trans (hb6.mono hNz))
                have hsg : sgnOf 3 = 62 := rfl
                rw [hsg]
                clear hb6 hza hxz hbz HM1 hsg
                go_wp2_with fail
                refine HWA.o.mono ?_
                rintro e w7 ⟨⟨nn, rfl⟩, hw7⟩
                have HB7 := hq (HB6.o.trans hw7.2.1)
                have HD7 := hq hw7.1
                clear HWA hw7 HB6
                go_wp2_with fail
                go_roundw
                case rel => exact ⟨k + 1, _, h, int_eq (by omega), HD7, HPA, HB7⟩
                case measure => simp [intOf]; omega
        · have h' : ¬ (k : Int) < (l.length : Int) := by omega
          have HN : Hq (E = acc) := hq (by rw [he.o, encGo_end h, List.append_nil])
          have hNr : N ≤ wr.heap.size := Nat.le_trans HN3.o hb.o.size
          have HST := hq (Tryd.Builder_String_any_k N N acc wr hd.o hNr)
          clear he hd h
          go_wp2_with fail
          refine HST.o.mono ?_
          rintro e w5 ⟨rfl, _, hb5, _⟩
          have HB5 := hq (HW3.o.trans ((hb.o.trans hb5).mono HNW.o))
          clear HST hb5
          go_wp2_with fail
          have := HP.o _ HB5.o
          rw [HN.o] at this
          exact this
end Go.Proofs.YtekihjffefokjaaDoor
