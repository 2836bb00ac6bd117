/-
  THE WALK OF THE LAW MarkNests.
-/
import Derived.Test.YtekihjffefokjaaDoorMkX
import Derived.Deep.RegionHeld3
namespace Go.Proofs.YtekihjffefokjaaDoor
open Go.RowKit

/-- a marked text in a hunk -/
def outM (t s : Bs) : List MPart := [⟨true, [], t, s, s⟩]
theorem out_right (t s : Bs) : rightB (outM t s) = true := by
  unfold rightB outM okB
  simp [okB]
theorem out_any (t s : Bs) : anyH (outM t s) = true := rfl
theorem out_pick (t s : Bs) : pickB (outM t s) [1] = some s := by
  unfold pickB
  rw [out_right, if_pos rfl]
  unfold outM
  rw [pickGo_hunk rfl (by decide)]
  show some (s ++ []) = some s
  rw [List.append_nil]
theorem out_wide (t : Bs) {l : List MPart} (h : anyH l = true) : widthM l < widthM (outM t (encM l)) := by
  have h1 := run_encM l h
  have h2 := (widthM_in (outM t (encM l)) _ (List.mem_cons_self ..)).2.2.1
  exact Nat.lt_of_le_of_lt h1 h2
theorem out_dec (t s : Bs) : decM (encM (outM t s)) = some (outM t s) := decM_some ⟨(rightB_iff _).1 (out_right t s), out_any t s⟩ rfl
theorem out_lens {t s : Bs} {N : Nat} (ht : t.length ≤ N) (hs : s.length ≤ N) : ∀ x ∈ outM t s, Lens N x := by
  intro x hx
  rw [outM, List.mem_singleton] at hx
  subst hx
  exact ⟨Nat.zero_le _, ht, hs, hs⟩

theorem enc_short2 {l : List MPart} (hl : ∀ x ∈ l, Lens 1024 x) (h60 : l.length ≤ 60) : (encM l).length ≤ 1000000 := by
  have hw := widthM_le (N := 1024) (by decide) hl
  have he := encGo_le (widthM l) 1024 l hl
  have hh := head_le (widthM l) (by omega)
  have hm : l.length * (4 * (widthM l + 2) + 4 * 1024) ≤ 60 * (4 * (widthM l + 2) + 4 * 1024) := Nat.mul_le_mul_right _ h60
  unfold encM
  rw [List.length_append]
  split
  · omega
  · simp only [List.length_nil]; omega
theorem out_short {t s : Bs} (ht : t.length ≤ 1000000) (hs : s.length ≤ 1000000) : (encM (outM t s)).length ≤ 16777216 := by
  have hl := out_lens ht hs
  have hw := widthM_le (N := 1000000) (by decide) hl
  have he := encGo_le (widthM (outM t s)) 1000000 _ hl
  have hh := head_le (widthM (outM t s)) (by omega)
  have h1 : (outM t s).length = 1 := rfl
  rw [h1, Nat.one_mul] at he
  unfold encM
  rw [List.length_append]
  split
  · omega
  · simp only [List.length_nil]; omega

/-- what the last region stands on -/
structure Nst (w : World) (o : Option Addr) (l : List MPart) (g b f : Nat) (x : MPart) (W : World) : Prop where
  bel : Below w.heap.size w W
  arg : PartsIn W o l
  mine : PartAt W g 0 x
  read : PartAt W b f x
section
variable {w : World} {o : Option Addr} {l : List MPart} {g b f : Nat} {x : MPart} {W : World}
theorem Nst.grow {W' : World} (h : Nst w o l g b f x W) (hb : Below W.heap.size W W') : Nst w o l g b f x W' := ⟨below_trans h.bel hb, h.arg.grow hb, h.mine.grow hb, h.read.grow hb⟩
theorem Nst.drew (h : Nst w o l g b f x W) : Nst w o l g b f x W.drew := h.grow (Below.refl _ _).drew
theorem Nst.cells (h : Nst w o l g b f x W) : (W.cell? ⟨g, 0, none⟩ = some (.bool x.hunk) ∧ W.cell? ⟨g, 1, none⟩ = some (.string (st x.text)) ∧ W.cell? ⟨g, 2, none⟩ = some (.string (st x.s0)) ∧ W.cell? ⟨g, 3, none⟩ = some (.string (st x.s1)) ∧ W.cell? ⟨g, 4, none⟩ = some (.string (st x.s2))) ∧
    W.cell? ⟨b, f, none⟩ = some (.bool x.hunk) ∧ W.cell? ⟨b, f + 1, none⟩ = some (.string (st x.text)) ∧ W.cell? ⟨b, f + 2, none⟩ = some (.string (st x.s0)) ∧ W.cell? ⟨b, f + 3, none⟩ = some (.string (st x.s1)) ∧ W.cell? ⟨b, f + 4, none⟩ = some (.string (st x.s2)) :=
  ⟨⟨h.mine.c0, h.mine.c1, h.mine.c2, h.mine.c3, h.mine.c4⟩, h.read.c0, h.read.c1, h.read.c2, h.read.c3, h.read.c4⟩
end

theorem nst_wo {w : World} {o : Option Addr} {l : List MPart} {g b f : Nat} {s T : Bs} {W : World} (h : Nst w o l g b f ⟨true, [], s, T, T⟩ W) (hm : mx w) (hs : ∀ x ∈ outM s T, Lens 1000000 x) :
    Calls Tryd.prog 30 #[.slice (some ⟨g, 0, none⟩) 1 1] W fun e w' => e = .returned (.int .i64 (widthM (outM s T) : Int)) ∧ Below W.heap.size W w' :=
  width_any _ 1 (outM s T) W (mx_grow hm h.bel) (Nat.le_refl 1) (by decide) (fun i hi => ⟨g, 0, rfl, by obtain rfl : i = 0 := Nat.lt_one_iff.1 hi; exact h.mine⟩) (fun x hx => lens_mono (by decide) (hs x hx))
theorem nst_wl {w : World} {o : Option Addr} {l : List MPart} {g b f cap : Nat} {x : MPart} {W : World} (h : Nst w o l g b f x W) (hm : mx w) (hl : l.length ≤ cap) (hc : cap ≤ maxLen) (hs : ∀ x ∈ l, Lens 1024 x) :
    Calls Tryd.prog 30 #[.slice o l.length cap] W fun e w' => e = .returned (.int .i64 (widthM l : Int)) ∧ Below W.heap.size W w' :=
  width_any o cap l W (mx_grow hm h.bel) hl hc h.arg (fun x hx => lens_mono (by decide) (hs x hx))

theorem nst_w {w : World} {o o' : Option Addr} {l : List MPart} {g b f cap n' c' N : Nat} {s T : Bs} {W : World} (h : Nst w o l g b f ⟨true, [], s, T, T⟩ W) (hm : mx w) (hl : l.length ≤ cap) (hc : cap ≤ maxLen) (hs : ∀ x ∈ l, Lens 1024 x) (hs' : ∀ x ∈ outM s T, Lens 1000000 x)
    (hc' : (o' = some ⟨g, 0, none⟩ ∧ n' = 1 ∧ c' = 1 ∧ N = widthM (outM s T)) ∨ (o' = o ∧ n' = l.length ∧ c' = cap ∧ N = widthM l)) :
    Calls Tryd.prog 30 #[.slice o' n' c'] W fun e w' => e = .returned (.int .i64 (N : Int)) ∧ Below W.heap.size W w' := by
  rcases hc' with ⟨rfl, rfl, rfl, rfl⟩ | ⟨rfl, rfl, rfl, rfl⟩
  · exact nst_wo h hm hs'
  · exact nst_wl h hm hl hc hs

set_option maxHeartbeats 1000000 in
set_option maxRecDepth 1000000 in
theorem markNests_any (o : Option Addr) (cap : Nat) (l : List MPart) (s : Bs) (w : World) (h : MkT w) (hl : l.length ≤ cap) (hc : cap ≤ maxLen) (hin : PartsIn w o l) (hs : ∀ x ∈ l, Lens 1152921504606846976 x) :
    Calls Tryd.prog 13 #[.slice o l.length cap, .string (st s)] w fun e w' => e = .returned (.bool true) ∧ Below w.heap.size w w' := by
  have HT := hq h
  have HIN := hq hin
  have HS := hq hs
  have hc0 := hc
  unfold maxLen at hc
  clear h hin hs
  go_enter Tryd.func13, Tryd.ntmps13
  go_wp2_with fail
  refine (msmall_any w HT.o).mono ?_
  rintro e w1 ⟨rfl, hb1⟩
  have HB1 := hq hb1
  have HIN1 := hq (HIN.o.grow hb1)
  clear hb1
  go_wp2_with fail
  refine (mfew_any o cap l w1 hl hc0 HIN1.o HS.o).mono ?_
  rintro e w2 ⟨rfl, hb2⟩
  have HB2 := hq (below_trans HB1.o hb2)
  clear hb2 HB1 HIN1 HS
  cases hF : fewM l with
  | false =>
    go_wp2_with fail
    go_ret
    exact ⟨rfl, HB2.o⟩
  | true =>
    by_cases h12 : 1024 < s.length
    · go_wp2_with fail
      go_ret
      exact ⟨rfl, HB2.o⟩
    obtain ⟨h60, hln⟩ := few_in hF
    have HLN := hq hln
    have HEN := hq (encode_few 1024 o cap l w2 (HT.o.grow HB2.o) hl hc0 (HIN.o.grow HB2.o) (by decide) hln)
    have hTL := enc_short2 hln h60
    clear hF hln
    unfold EncPost at HEN
    generalize hE : (if rightB l = true then (0 : Int) else 1) = E at *
    generalize hT : (if rightB l = true then encM l else []) = T at *
    generalize hr : rightB l = r at *
    have HTT := hq hT
    have HEE := hq hE
    clear hT hE
    go_wp2_with fail
    refine HEN.o.mono ?_
    rintro e w3 ⟨rfl, hb3⟩
    have HB4 := hq (below_trans HB2.o hb3)
    clear hb3 HEN HB2
    go_wp2_with fail
    go_loopw [9, 10] (fun c i wr => ∃ k n : Nat, k ≤ l.length ∧ i = .int .i64 (k : Int) ∧ c = .int .i64 (n : Int) ∧ Hq (nH l = n + nH (l.drop k)) ∧ n ≤ k ∧ Hq (Below w.heap.size w wr)) (fun _ i _ => l.length - (intOf i).toNat)
    case atStart => exact ⟨0, 0, Nat.zero_le _, rfl, rfl, hq (by simp), Nat.le_refl _, HB4⟩
    case round =>
      obtain ⟨k, n, hk, rfl, rfl, hnh, hnk, hb⟩ := hrel
      clear HB4
      by_cases h : k < l.length
      · obtain ⟨b, f, rfl, hp⟩ := HIN.o k h
        obtain ⟨c0, c1, c2, c3, c4⟩ := hp.grow hb.o
        have HN : Hq (nH l = (n + (if l[k].hunk = true then 1 else 0)) + nH (l.drop (k + 1))) := hq (by rw [hnh.o, nH_step h, Nat.add_assoc])
        clear hp HIN hnh HT HTT HEE HLN
        generalize l[k] = x at *
        cases hx : x.hunk with
        | true =>
          rw [hx] at c0 HN
          simp only [if_true] at HN
          go_wp2_with fail
          go_roundw
          case rel => exact ⟨k + 1, n + 1, h, int_eq (by omega), int_eq (by omega), HN, by omega, hb⟩
          case measure => simp [intOf]; omega
        | false =>
          rw [hx] at c0 HN
          simp only [Bool.false_eq_true, if_false, Nat.add_zero] at HN
          go_wp2_with fail
          go_roundw
          case rel => exact ⟨k + 1, n, h, int_eq (by omega), rfl, HN, by omega, hb⟩
          case measure => simp [intOf]; omega
      · have h' : ¬ (k : Int) < (l.length : Int) := by omega
        have HNH : Hq (nH l = n) := hq (by rw [hnh.o, nH_end h]; rfl)
        clear hnh h
        cases r with
        | false =>
          obtain rfl : E = 1 := HEE.o.symm
          go_wp2_with fail
          go_ret
          exact ⟨rfl, hb.o⟩
        | true =>
          obtain rfl : E = 0 := HEE.o.symm
          by_cases hn0 : n = 0
          · subst hn0
            go_wp2_with fail
            go_ret
            exact ⟨rfl, hb.o⟩
          · have hA : anyH l = true := by rw [anyH_nH, HNH.o]; exact decide_eq_true (by omega)
            obtain rfl : encM l = T := HTT.o
            have HWD := hq (out_wide s hA)
            have HX := hq (Whole.made wr 53 #[.bool true, .string ⟨#[]⟩, .string (st s), .string (st (encM l)), .string (st (encM l))])
            have HBX := hq (hb.o.alloc hb.o.size (.cells #[.bool true, .string ⟨#[]⟩, .string (st s), .string (st (encM l)), .string (st (encM l))] 53))
            have HOX := hq (parts_whole (l := outM s (encM l)) HX.o rfl)
            have hol := out_lens (t := s) (s := encM l) (N := 1000000) (by omega) hTL
            have HOL := hq hol
            have HDE := hq (out_dec s (encM l))
            have HPK := hq (out_pick s (encM l))
            have HOR := hq (out_right s (encM l))
            have hetl : (encM (outM s (encM l))).length ≤ 16777216 := out_short (by omega) hTL
            have hl1 : (outM s (encM l)).length = 1 := rfl
            have hn1 : ¬ (n : Int) = 0 := by omega
            clear HTT HEE HNH hA hol HX hr
            have HT0 : Hq (Below w.heap.size w wr) := hq hb.o
            go_wp2_with fail
            generalize encM l = T at *
            generalize hgg : wr.heap.size = g at *
            generalize wr.alloc (.cells #[.bool true, .string ⟨#[]⟩, .string (st s), .string (st T), .string (st T)] 53) = wa at *
            refine (encode_few 1000000 (some ⟨g, 0, none⟩) 1 (outM s T) wa (HT.o.grow HBX.o) (Nat.le_refl 1) (by decide) HOX.o (by decide) HOL.o).mono ?_
            rintro e w5 ⟨rfl, hb5⟩
            rw [HOR.o]
            simp only [if_true]
            have HB5 := hq (below_trans HBX.o hb5)
            have HOX5 := hq (HOX.o.grow hb5)
            clear hb5 HBX HOX HOR
            go_wp2_with fail
            refine (decode_any (encM (outM s T)) w5 (HT.o.grow HB5.o).hm (HT.o.grow HB5.o).hI (HT.o.grow HB5.o).hE hetl).mono ?_
            rintro e w6 ⟨he6, hb6⟩
            rw [HDE.o] at he6
            obtain ⟨v6, rfl, hrow6⟩ := he6
            obtain ⟨o6, cap6, hv6, hlc6, hcm6, hin6⟩ := prow_in hrow6
            obtain rfl : v6 = .slice o6 1 cap6 := hv6
            replace hlc6 : 1 ≤ cap6 := hlc6
            have HB6 := hq (below_trans HB5.o hb6)
            have HOX6 := hq (HOX5.o.grow hb6)
            have HRW6 := hq hin6
            clear hb6 hrow6 hin6 HB5 HOX5 HDE
            have hbi := below_alloc w6 (.cells #[.int .i64 1] 3)
            have HPI := hq (ints_whole (l := [1]) (Whole.made w6 3 #[.int .i64 1]) rfl)
            have HB7 := hq (below_trans HB6.o hbi)
            have HOX7 := hq (HOX6.o.grow hbi)
            have HRW7 := hq (HRW6.o.grow hbi)
            clear hbi HB6 HOX6 HRW6
            go_wp2_with fail
            generalize w6.alloc (.cells #[.int .i64 1] 3) = w7 at *
            refine (pick_any (some ⟨g, 0, none⟩) 1 (outM s T) _ 1 [1] w7 (Nat.le_refl 1) (by decide) HOX7.o (fun x hx => lens_mono (by decide) (HOL.o x hx)) (by decide) (by decide) HPI.o).mono ?_
            rintro e w8 ⟨rfl, hb8⟩
            rw [HPK.o]
            have HB8 := hq (below_trans HB7.o hb8)
            have HOX8 := hq (HOX7.o.grow hb8)
            have HRW8 := hq (HRW7.o.grow hb8)
            clear hb8 HB7 HOX7 HRW7 HPI HPK
            go_upto_region 18 with fail
            obtain ⟨bm, fm, rfl, hpm⟩ := HRW8.o 0 Nat.zero_lt_one
            obtain ⟨bo, fo, hbo, hpo⟩ := HOX8.o 0 Nat.zero_lt_one
            obtain ⟨rfl, rfl⟩ : g = bo ∧ 0 = fo := by simpa using hbo
            have hns : Nst w o l g bm fm ⟨true, [], s, T, T⟩ w8 := ⟨HB8.o, HIN.o.grow HB8.o, hpo, hpm⟩
            have e1 := eq_part true (st []) (st s) (st T) (st T)
            have hwl := widthM_7 l
            have d1 : decide ((widthM l : Int) < (widthM (outM s T) : Int)) = true := decide_eq_true (by have := HWD.o; omega)
            have HWX := hq (fun W (o' : Option Addr) (n' c' N : Nat) (hc' : (o' = some ⟨g, 0, none⟩ ∧ n' = 1 ∧ c' = 1 ∧ N = widthM (outM s T)) ∨ (o' = o ∧ n' = l.length ∧ c' = cap ∧ N = widthM l)) (h : Nst w o l g bm fm ⟨true, [], s, T, T⟩ W) => nst_w h HT.o.hm hl hc0 HLN.o HOL.o hc')
            have hcl := hns.cells
            clear hwl
            generalize widthM (outM s T) = wo at *
            generalize widthM l = wl at *
            have d2 : (wl : Int) < (wo : Int) := of_decide_eq_true d1
            clear HWD
            clear HT HIN HLN hpm hpo HT0 HOL hetl HRW8 HOX8 HB8 hb
            go_region_held3 (fun W => Nst w o l g bm fm ⟨true, [], s, T, T⟩ W ∧ (W.cell? ⟨g, 0, none⟩ = some (.bool true) ∧ W.cell? ⟨g, 1, none⟩ = some (.string (st [])) ∧ W.cell? ⟨g, 2, none⟩ = some (.string (st s)) ∧ W.cell? ⟨g, 3, none⟩ = some (.string (st T)) ∧ W.cell? ⟨g, 4, none⟩ = some (.string (st T))) ∧
              W.cell? ⟨bm, fm, none⟩ = some (.bool true) ∧ W.cell? ⟨bm, fm + 1, none⟩ = some (.string (st [])) ∧ W.cell? ⟨bm, fm + 2, none⟩ = some (.string (st s)) ∧ W.cell? ⟨bm, fm + 3, none⟩ = some (.string (st T)) ∧ W.cell? ⟨bm, fm + 4, none⟩ = some (.string (st T)))
              (first | exact ⟨hns.drew, hns.drew.cells⟩ | exact ⟨hT2, hT2.cells⟩)
              ((go_at_call 30; refine (HWX.o _ _ _ _ _ (by first | exact .inl ⟨rfl, rfl, rfl, rfl⟩ | exact .inr ⟨rfl, rfl, rfl, rfl⟩) (And.left (by assumption))).mono ?_; rintro e' w9 ⟨rfl, hb9⟩; have hT2 : Nst w o l g bm fm ⟨true, [], s, T, T⟩ w9 := Nst.grow (And.left (by assumption)) hb9))
            go_wp2_with fail
            go_ret
            exact ⟨rfl, hT2.bel⟩
end Go.Proofs.YtekihjffefokjaaDoor
