/-
  WALKS: the small case of layer 25.
-/
import Derived.Test.YtekihjffefokjaaDoorMkS
namespace Go.Proofs.YtekihjffefokjaaDoor
open Go.RowKit

theorem parts_whole {w : World} {g : Nat} {T : TypeId} {l : List MPart} {cs : Array Value} (h : Whole w g T cs) (hc : cs = (partCells l).toArray) : PartsIn w (some ⟨g, 0, none⟩) l := fun i hi => by
  subst hc
  have hs := partCells_at l i l[i] (List.getElem?_eq_getElem hi)
  have hc' : ∀ j u, (partCells l)[i * 5 + j]? = some u → w.cell? ⟨g, 0 + i * 5 + j, none⟩ = some u := fun j u hu => by
    rw [Nat.zero_add, h.at_ (i * 5 + j)]
    simpa using hu
  exact ⟨g, 0, rfl, hc' 0 _ (hs 0 (by decide)), hc' 1 _ (hs 1 (by decide)), hc' 2 _ (hs 2 (by decide)), hc' 3 _ (hs 3 (by decide)), hc' 4 _ (hs 4 (by decide))⟩
theorem ints_whole {w : World} {g : Nat} {T : TypeId} {l : List Int} {cs : Array Value} (h : Whole w g T cs) (hc : cs = (l.map (Value.int .i64)).toArray) : IntsIn w (some ⟨g, 0, none⟩) l := fun i hi => by
  subst hc
  refine ⟨g, 0, rfl, ?_⟩
  rw [Nat.zero_add, h.at_ i]
  simp [hi]
def sl : List MPart := [⟨false, [97], [], [], []⟩, ⟨true, [], [49], [50], [51]⟩, ⟨false, [98], [], [], []⟩]
def slT : Bs := [35, 109, 97, 114, 107, 115, 32, 55, 10, 97, 10, 60, 60, 60, 60, 60, 60, 60, 10, 50, 10, 124, 124, 124, 124, 124, 124, 124, 10, 49, 10, 61, 61, 61, 61, 61, 61, 61, 10, 51, 10, 62, 62, 62, 62, 62, 62, 62, 10, 98]
theorem sl_lens : ∀ x ∈ sl, Lens 1 x := by
  intro x hx
  simp only [sl, List.mem_cons, List.not_mem_nil, or_false] at hx
  rcases hx with rfl | rfl | rfl <;> exact ⟨by decide, by decide, by decide, by decide⟩
theorem sl_right : rightB sl = true := by kernel_rfl
theorem sl_any : anyH sl = true := rfl
theorem sl_width : widthM sl = 7 := by kernel_rfl
theorem sl_enc : encM sl = slT := by
  unfold encM
  rw [if_pos sl_any, sl_width]
  unfold headB
  rw [Lib.decDigits_one (by decide)]
  kernel_rfl
theorem sl_dec : decM slT = some sl := decM_some ⟨(rightB_iff sl).1 sl_right, sl_any⟩ sl_enc
theorem sl_pick : pickB sl [2] = some [97, 51, 98] := by kernel_rfl
def s9 : List MPart := [⟨false, [120, 10, 61, 61, 61, 61, 61, 61, 61, 61], [], [], []⟩]
theorem s9_width : widthM s9 = 9 := by kernel_rfl
theorem s9_lens : ∀ x ∈ s9, Lens 10 x := by
  intro x hx
  simp only [s9, List.mem_cons, List.not_mem_nil, or_false] at hx
  subst hx
  exact ⟨by decide, by decide, by decide, by decide⟩
/-- what the tables and the two errors give -/
structure MkT (w : World) : Prop where
  hm : mx w
  hI : ∀ n : Nat, n ≤ 4294967290 → Itoas n w
  hE : ErrTwo w
theorem MkT.grow {w W : World} (h : MkT w) (hb : Below w.heap.size w W) : MkT W := ⟨mx_grow h.hm hb, fun n hn => (h.hI n hn).grow hb, h.hE.grow hb⟩
/-- Encode, of short parts -/
theorem encode_few (N : Nat) (o : Option Addr) (cap : Nat) (l : List MPart) (w : World) (h : MkT w) (hl : l.length ≤ cap) (hc : cap ≤ maxLen) (hin : PartsIn w o l) (hN : N ≤ 16777216) (hs : ∀ x ∈ l, Lens N x) :
    Calls Tryd.prog 24 #[.slice o l.length cap] w (EncPost l w) :=
  encode_any o cap l w h.hm h.hI hl hc hin (fun x hx => lens_mono (by omega) (hs x hx)) (fun hr => enc_le 16777216 l (by decide) (by decide) (fun x hx => lens_mono hN (hs x hx)) (right_len hr)) (Nat.le_trans (widthM_le (N := 16777216) (by decide) (fun x hx => lens_mono hN (hs x hx))) (by decide))

set_option maxHeartbeats 4000000 in
set_option maxRecDepth 1000000 in
theorem msmall_any (w : World) (h : MkT w) : Calls Tryd.prog 22 #[] w fun e w' => e = .returned (.bool true) ∧ Below w.heap.size w w' := by
  have HT := hq h
  clear h
  have hb := below_alloc w (.cells #[.bool false, .string ⟨#[97]⟩, .string ⟨#[]⟩, .string ⟨#[]⟩, .string ⟨#[]⟩, .bool true, .string ⟨#[]⟩, .string ⟨#[49]⟩, .string ⟨#[50]⟩, .string ⟨#[51]⟩, .bool false, .string ⟨#[98]⟩, .string ⟨#[]⟩, .string ⟨#[]⟩, .string ⟨#[]⟩] 53)
  have hW := Whole.made w 53 #[.bool false, .string ⟨#[97]⟩, .string ⟨#[]⟩, .string ⟨#[]⟩, .string ⟨#[]⟩, .bool true, .string ⟨#[]⟩, .string ⟨#[49]⟩, .string ⟨#[50]⟩, .string ⟨#[51]⟩, .bool false, .string ⟨#[98]⟩, .string ⟨#[]⟩, .string ⟨#[]⟩, .string ⟨#[]⟩]
  have HB := hq hb
  have HIN := hq (parts_whole (l := sl) hW rfl)
  clear hb hW
  go_enter Tryd.func22, Tryd.ntmps22
  go_wp2_with fail
  generalize w.alloc (.cells #[.bool false, .string ⟨#[97]⟩, .string ⟨#[]⟩, .string ⟨#[]⟩, .string ⟨#[]⟩, .bool true, .string ⟨#[]⟩, .string ⟨#[49]⟩, .string ⟨#[50]⟩, .string ⟨#[51]⟩, .bool false, .string ⟨#[98]⟩, .string ⟨#[]⟩, .string ⟨#[]⟩, .string ⟨#[]⟩] 53) = w1 at *
  have HO : Hq (∃ o : Option Addr, o = some ⟨w.heap.size, 0, none⟩) := hq ⟨_, rfl⟩
  generalize hg : (some (⟨w.heap.size, 0, none⟩ : Addr)) = o at *
  refine (encode_few 1 o 3 sl w1 (HT.o.grow HB.o) (by decide) (by decide) HIN.o (by decide) sl_lens).mono ?_
  rintro e w2 ⟨rfl, hb2⟩
  rw [sl_right, sl_enc]
  simp only [if_true]
  have HB2 := hq (below_trans HB.o hb2)
  have HIN2 := hq (HIN.o.grow hb2)
  clear HB hb2 HIN
  go_wp2_with fail
  refine (decode_any slT w2 (HT.o.grow HB2.o).hm (HT.o.grow HB2.o).hI (HT.o.grow HB2.o).hE (by decide)).mono ?_
  rintro e w3 ⟨he, hb3⟩
  rw [sl_dec] at he
  obtain ⟨v, rfl, hrow⟩ := he
  obtain ⟨o2, cap2, rfl, hlc, hcm, hin2⟩ := prow_in hrow
  have HB3 := hq (below_trans HB2.o hb3)
  have HIN3 := hq (HIN2.o.grow hb3)
  have HRW := hq hin2
  clear HB2 hb3 HIN2 hrow hin2
  have hbi := below_alloc w3 (.cells #[.int .i64 2] 3)
  have HPI := hq (ints_whole (l := [2]) (Whole.made w3 3 #[.int .i64 2]) rfl)
  have HB4 := hq (below_trans HB3.o hbi)
  have HIN4 := hq (HIN3.o.grow hbi)
  have HRW4 := hq (HRW.o.grow hbi)
  clear hbi HB3 HIN3 HRW
  go_wp2_with fail
  generalize w3.alloc (.cells #[.int .i64 2] 3) = w4 at *
  refine (pick_any o 3 sl _ 1 [2] w4 (by decide) (by decide) HIN4.o (fun x hx => lens_mono (by decide) (sl_lens x hx)) (by decide) (by decide) HPI.o).mono ?_
  rintro e w5 ⟨rfl, hb5⟩
  rw [sl_pick]
  have HB5 := hq (below_trans HB4.o hb5)
  have HIN5 := hq (HIN4.o.grow hb5)
  have HRW5 := hq (HRW4.o.grow hb5)
  clear hb5 HB4 HIN4 HRW4
  go_wp2_with fail
  refine (same_yes o o2 3 cap2 sl w5 (by decide) (by decide) HIN5.o hlc hcm HRW5.o).mono ?_
  rintro e w6 ⟨rfl, hb6⟩
  have HB6 := hq (below_trans HB5.o hb6)
  clear hb6 HB5 HIN5 HRW5
  have hbj := below_alloc w6 (.cells #[.bool false, .string ⟨#[120, 10, 61, 61, 61, 61, 61, 61, 61, 61]⟩, .string ⟨#[]⟩, .string ⟨#[]⟩, .string ⟨#[]⟩] 53)
  have HIN9 := hq (parts_whole (l := s9) (Whole.made w6 53 #[.bool false, .string ⟨#[120, 10, 61, 61, 61, 61, 61, 61, 61, 61]⟩, .string ⟨#[]⟩, .string ⟨#[]⟩, .string ⟨#[]⟩]) rfl)
  have HB7 := hq (below_trans HB6.o hbj)
  clear hbj HB6
  go_wp2_with fail
  refine (width_any _ 1 s9 _ (HT.o.grow HB7.o).hm (by decide) (by decide) HIN9.o (fun x hx => lens_mono (by decide) (s9_lens x hx))).mono ?_
  rintro e w8 ⟨rfl, hb8⟩
  rw [s9_width]
  have HB8 := hq (below_trans HB7.o hb8)
  clear hb8 HB7 HIN9
  go_wp2_with fail
  go_ret
  exact ⟨rfl, HB8.o⟩
end Go.Proofs.YtekihjffefokjaaDoor
