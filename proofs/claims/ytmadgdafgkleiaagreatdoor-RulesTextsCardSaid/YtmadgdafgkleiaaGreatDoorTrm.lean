/-
  WALKS: strings.Trim of blanks and line feeds.
-/
import Derived.Test.YtmadgdafgkleiaaGreatDoorShelf
import Derived.Test.YtmadgdafgkleiaaGreatDoorBas
import Derived.Test.YtmadgdafgkleiaaGreatDoorPtp
import Derived.Lib.AsciiSet
import Derived.Deep.WholeRow
import Derived.Deep.LoopGhost
namespace Go.Proofs.YtmadgdafgkleiaaGreatDoor
open Go.RowKit
def isSL (b : UInt8) : Bool := ([32, 10] : Bs).contains b
def trimLs (l : Bs) : Bs := l.dropWhile isSL
def trimRs (l : Bs) : Bs := (l.reverse.dropWhile isSL).reverse
def trimSL (l : Bs) : Bs := trimLs (trimRs l)
theorem trimRs_snoc (l : Bs) (c : UInt8) : trimRs (l ++ [c]) = if isSL c = true then trimRs l else l ++ [c] := by
  unfold trimRs
  rw [List.reverse_append, List.reverse_singleton, List.singleton_append, List.dropWhile_cons]
  split
  · rfl
  · simp
theorem trimRs_len (l : Bs) : (trimRs l).length ≤ l.length := by
  unfold trimRs
  have := (List.dropWhile_sublist isSL (l := l.reverse)).length_le
  simpa using this
theorem trimLs_len (l : Bs) : (trimLs l).length ≤ l.length := (List.dropWhile_sublist isSL).length_le
def TSetIn (w : World) (b : Nat) : Prop := ∀ x : UInt8, w.cell? ⟨b, x.toNat, none⟩ = some (.bool (isSL x))
theorem set_in {w : World} {b : Nat} {t : TypeId} (h : Whole w b t (Lib.setCells [32, 10])) : TSetIn w b := fun x => by
  rw [h.at_ x.toNat]
  have h0 : (Array.replicate 256 (Value.bool false))[x.toNat]? = some (.bool false) := by
    rw [Array.getElem?_replicate, if_pos x.toNat_lt]
  exact Lib.fold_at [32, 10] _ false x h0
theorem st_last (l : Bs) (c : UInt8) (h : l.length < (st (l ++ [c])).size) : (st (l ++ [c]))[l.length]'h = c := by
  show (l ++ [c]).toArray[l.length]'_ = c
  simp
set_option maxHeartbeats 1000000 in
set_option maxRecDepth 1000000 in
theorem trimL_any (s : Bs) (b : Nat) (w : World) (h : TSetIn w b) (hs : s.length ≤ 1073741824) : Calls Tryz.prog 65 #[.string (st s), .pointer (some ⟨b, 0, none⟩)] w fun e w' => e = .returned (.string (st (trimLs s))) ∧ w = w' := by
  have HS := hq h
  clear h
  go_enter Tryz.func65, Tryz.ntmps65
  go_wp2_with fail
  go_loopg [0] s.length (fun gk u wr => ∃ r : Bs, u = .string (st r) ∧ r.length ≤ gk ∧ r.length ≤ 1073741824 ∧ Hq (trimLs s = trimLs r) ∧ w = wr)
  case atStart => exact ⟨s, rfl, Nat.le_refl _, hs, hq rfl, rfl⟩
  case round =>
    obtain ⟨r, rfl, hr, hrl, ht, rfl⟩ := hrel
    cases r with
    | nil =>
      have HV : Hq (trimLs s = []) := hq ht.o
      clear ht
      go_wp2_with fail
      first | exact ⟨by rw [HV.o], rfl⟩ | (go_ret; exact ⟨by rw [HV.o]; rfl, rfl⟩)
    | cons c t =>
      have hz0 : (0 : Int) < ((c :: t : Bs).length : Int) := by simp
      have hc := HS.o ((st (c :: t))[0]'(by rw [st_size]; simp))
      have HC := hq (Tryz.asciiSet_contains b ((st (c :: t))[0]'(by rw [st_size]; simp)) _ w hc)
      have e0 : (st (c :: t))[0]'(by rw [st_size]; simp) = c := rfl
      have e2 : (st (c :: t)).extract 1 (t.length + 1) = st t := by
        have := st_drop (c :: t) 1
        rw [st_size] at this
        exact this
      have hz1 : (1 : Int) ≤ ((c :: t : Bs).length : Int) := by simp; omega
      cases hi : isSL c with
      | true =>
        rw [e0, hi] at HC
        have HT : Hq (trimLs s = trimLs t) := hq (by rw [ht.o]; unfold trimLs; rw [List.dropWhile_cons, if_pos hi])
        clear hc ht hi
        go_wp2_with fail
        refine HC.o.mono ?_
        rintro e w2 ⟨rfl, rfl⟩
        go_wp2_with fail
        go_roundg (gk - 1)
        case measure => simp at hr; omega
        case rel => exact ⟨t, rfl, by simp at hr; omega, by simp at hrl; omega, HT, rfl⟩
      | false =>
        rw [e0, hi] at HC
        have HV : Hq (trimLs s = c :: t) := hq (by rw [ht.o]; unfold trimLs; rw [List.dropWhile_cons, if_neg (by rw [hi]; decide)])
        clear hc ht hi
        go_wp2_with fail
        refine HC.o.mono ?_
        rintro e w2 ⟨rfl, rfl⟩
        go_wp2_with fail
        first | exact ⟨by rw [HV.o], rfl⟩ | (go_ret; exact ⟨by rw [HV.o]; rfl, rfl⟩)
set_option maxHeartbeats 1000000 in
set_option maxRecDepth 1000000 in
theorem trimR_any (s : Bs) (b : Nat) (w : World) (h : TSetIn w b) (hs : s.length ≤ 1073741824) : Calls Tryz.prog 66 #[.string (st s), .pointer (some ⟨b, 0, none⟩)] w fun e w' => e = .returned (.string (st (trimRs s))) ∧ w = w' := by
  have HS := hq h
  clear h
  go_enter Tryz.func66, Tryz.ntmps66
  go_wp2_with fail
  go_loopg [0] s.length (fun gk u wr => ∃ r : Bs, u = .string (st r) ∧ r.length ≤ gk ∧ r.length ≤ 1073741824 ∧ Hq (trimRs s = trimRs r) ∧ w = wr)
  case atStart => exact ⟨s, rfl, Nat.le_refl _, hs, hq rfl, rfl⟩
  case round =>
    obtain ⟨r, rfl, hr, hrl, ht, rfl⟩ := hrel
    rcases List.eq_nil_or_concat r with rfl | ⟨t, c, rfl⟩
    · have HV : Hq (trimRs s = []) := hq ht.o
      clear ht
      go_wp2_with fail
      first | exact ⟨by rw [HV.o], rfl⟩ | (go_ret; exact ⟨by rw [HV.o]; rfl, rfl⟩)
    · rw [List.concat_eq_append] at hr hrl ht ⊢
      have hlen : (t ++ [c]).length = t.length + 1 := by simp
      have hsz : (st (t ++ [c])).size = t.length + 1 := by rw [st_size, hlen]
      have hz0 : (0 : Int) < (t.length : Int) + 1 := by omega
      have hlt : (t.length : Int) < (t.length : Int) + 1 := by omega
      have hle : (t.length : Int) ≤ (t.length : Int) + 1 := by omega
      have hc := HS.o ((st (t ++ [c]))[t.length]'(by rw [hsz]; omega))
      have HC := hq (Tryz.asciiSet_contains b ((st (t ++ [c]))[t.length]'(by rw [hsz]; omega)) _ w hc)
      have e0 : (st (t ++ [c]))[t.length]'(by rw [hsz]; omega) = c := st_last t c (by rw [hsz]; omega)
      have e2 : (st (t ++ [c])).extract 0 t.length = st t := by
        have := st_take (t ++ [c]) t.length
        rw [List.take_left] at this
        exact this
      rw [hlen] at hr hrl
      cases hi : isSL c with
      | true =>
        rw [e0, hi] at HC
        have HT : Hq (trimRs s = trimRs t) := hq (by rw [ht.o, trimRs_snoc, if_pos hi])
        clear hc ht hi
        go_wp2_with fail
        refine HC.o.mono ?_
        rintro e w2 ⟨rfl, rfl⟩
        go_wp2_with fail
        go_roundg (gk - 1)
        case measure => omega
        case rel => exact ⟨t, rfl, by omega, by omega, HT, rfl⟩
      | false =>
        rw [e0, hi] at HC
        have HV : Hq (trimRs s = t ++ [c]) := hq (by rw [ht.o, trimRs_snoc, if_neg (by rw [hi]; decide)])
        clear hc ht hi
        go_wp2_with fail
        refine HC.o.mono ?_
        rintro e w2 ⟨rfl, rfl⟩
        go_wp2_with fail
        first | exact ⟨by rw [HV.o], rfl⟩ | (go_ret; exact ⟨by rw [HV.o]; rfl, rfl⟩)
theorem zeroArr (w : World) : (zeroValue 89).run Tryz.prog w = .ok (.agg (Array.replicate 256 (.bool false))) w := by kernel_rfl
set_option maxHeartbeats 1000000 in
set_option maxRecDepth 1000000 in
theorem trimSL_any (s : Bs) (w : World) (hs : s.length ≤ 1073741824) : Calls Tryz.prog 41 #[.string (st s), .string ⟨#[32, 10]⟩] w fun e w' => e = .returned (.string (st (trimSL s))) ∧ Below w.heap.size w w' := by
  cases s with
  | nil =>
    have hb := Below.refl w.heap.size w
    go_enter Tryz.func41, Tryz.ntmps41
    go_wp2_with fail
    first | exact ⟨rfl, hb⟩ | (go_ret; exact ⟨rfl, hb⟩)
  | cons c t =>
    have HMK := hq (Tryz.strings_makeASCIISet zeroArr ⟨#[32, 10]⟩ w (by decide) (fun j b hb => by
      match j, hb with
      | 0, hb => cases hb; decide
      | 1, hb => cases hb; decide))
    generalize hsl : c :: t = s at *
    have e1 : (s == ([] : Bs)) = false := by rw [← hsl]; rfl
    clear hsl
    have hb1 := below_alloc w (.cells (Lib.setCells [32, 10]) 89)
    have hb2 := below_alloc (w.alloc (.cells (Lib.setCells [32, 10]) 89)) (.cells (Lib.setCells [32, 10]) 89)
    have HB := hq (below_trans hb1 hb2)
    have HX := hq (Whole.made (w.alloc (.cells (Lib.setCells [32, 10]) 89)) 89 (Lib.setCells [32, 10]))
    have hsz := Lib.setCells_size [32, 10]
    have hsc : (storeCells ⟨w.heap.size + 1, 0, none⟩ (Lib.setCells [32, 10]).toList 0).run Tryz.prog ((w.alloc (.cells (Lib.setCells [32, 10]) 89)).alloc (.cells Tryz.zeroCells89 89)) = .ok () ((w.alloc (.cells (Lib.setCells [32, 10]) 89)).alloc (.cells (Lib.setCells [32, 10]) 89)) := by
      have := run_storeCells_new (P := Tryz.prog) (w.alloc (.cells (Lib.setCells [32, 10]) 89)) 89 Tryz.zeroCells89 (Lib.setCells [32, 10]) (by rw [hsz]; kernel_rfl) (by rw [hsz]; rfl) (Lib.setCells_one _)
      simpa using this
    have HST := hq (set_in HX.o)
    rw [World.size_alloc] at HST
    have HL := hq (fun (r : Bs) (hr : r.length ≤ 1073741824) => trimL_any r _ _ HST.o hr)
    have HR := hq (trimR_any s _ _ HST.o hs)
    have HE : Hq (trimLs (trimRs s) = trimSL s) := hq rfl
    have hrl := trimRs_len s
    change Hq (Calls _ _ #[.string ⟨#[32, 10]⟩] w fun e w' => e = .returned (.tuple #[.agg (Lib.setCells [32, 10]), .bool true]) ∧ w' = w.alloc (.cells (Lib.setCells [32, 10]) _)) at HMK
    generalize Lib.setCells [32, 10] = SC at *
    clear hb1 hb2 HX HST
    go_enter Tryz.func41, Tryz.ntmps41
    go_wp2_with fail
    refine HMK.o.mono ?_
    rintro e w2 ⟨rfl, rfl⟩
    go_wp2_with fail
    refine HR.o.mono ?_
    rintro e w3 ⟨rfl, rfl⟩
    have HLL := hq (HL.o (trimRs s) (by omega))
    go_wp2_with fail
    refine HLL.o.mono ?_
    rintro e w3 ⟨rfl, rfl⟩
    go_wp2_with fail
    first | exact ⟨by rw [HE.o], HB.o⟩ | (go_ret; exact ⟨by rw [← HE.o]; rfl, HB.o⟩)
end Go.Proofs.YtmadgdafgkleiaaGreatDoor

