/-
  THE WALK OF THE LAW MarkReads.
-/
import Derived.Test.YtekihjffefokjaaDoorRMkV
import Derived.Test.YtekihjffefokjaaDoorMkT
namespace Go.Proofs.YtekihjffefokjaaDoor
open Go.RowKit

set_option maxHeartbeats 2000000 in
set_option maxRecDepth 1000000 in
theorem markReads_any (b : ByteArray) (w : World) (h : MkT w) (hs : b.size ≤ maxLen) :
    Calls Tryd.prog 9 #[.string b] w fun e w' => e = .returned (.bool true) ∧ Below w.heap.size w w' := by
  obtain ⟨s, rfl⟩ : ∃ s : Bs, b = st s := ⟨b.data.toList, (st_of b).symm⟩
  rw [st_size] at hs
  have HT := hq h
  unfold maxLen at hs
  clear h
  go_enter Tryd.func9, Tryd.ntmps9
  go_wp2_with fail
  refine (msmall_any w HT.o).mono ?_
  rintro e w1 ⟨rfl, hb1⟩
  have HB1 := hq hb1
  clear hb1
  by_cases h11 : 2048 < s.length
  · go_wp2_with fail
    go_ret
    exact ⟨rfl, HB1.o⟩
  · have HD := hq (decode_any s w1 (HT.o.grow HB1.o).hm (HT.o.grow HB1.o).hI (HT.o.grow HB1.o).hE (by omega))
    have HR := hq (fun W => rdec_any s W (by omega))
    generalize decM s = D at *
    clear HT
    go_wp2_with fail
    refine HD.o.mono ?_
    rintro e w2 ⟨he, hb2⟩
    have HB2 := hq (below_trans HB1.o hb2)
    clear HD HB1 hb2
    cases D with
    | none =>
      obtain rfl : e = _ := he
      go_wp2_with fail
      refine (HR.o _).mono ?_
      rintro e w3 ⟨he3, hb3⟩
      obtain rfl : e = _ := he3
      have HB3 := hq (below_trans HB2.o hb3)
      clear HR HB2 hb3
      have HS := hq (same_yes none none 0 0 [] w3 (Nat.le_refl _) (Nat.zero_le _) (PartsIn.nil _ _) (Nat.le_refl _) (Nat.zero_le _) (PartsIn.nil _ _))
      go_wp2_with fail
      refine HS.o.mono ?_
      rintro e w4 ⟨rfl, hb4⟩
      have HB4 := hq (below_trans HB3.o hb4)
      clear HS HB3 hb4
      go_wp2_with fail
      go_ret
      exact ⟨rfl, HB4.o⟩
    | some L =>
      obtain ⟨v, rfl, hrow⟩ := he
      obtain ⟨o, cap, rfl, hlc, hcm, hin⟩ := prow_in hrow
      have HIN := hq hin
      clear hrow hin
      go_wp2_with fail
      refine (HR.o _).mono ?_
      rintro e w3 ⟨he3, hb3⟩
      obtain ⟨v', rfl, hrow'⟩ := he3
      obtain ⟨o', cap', rfl, hlc', hcm', hin'⟩ := prow_in hrow'
      have HS := hq (same_yes o o' cap cap' L w3 hlc hcm (HIN.o.grow hb3) hlc' hcm' hin')
      have HB3 := hq (below_trans HB2.o hb3)
      clear HR HB2 hb3 HIN hrow' hin'
      go_wp2_with fail
      refine HS.o.mono ?_
      rintro e w4 ⟨rfl, hb4⟩
      have HB4 := hq (below_trans HB3.o hb4)
      clear HS HB3 hb4
      go_wp2_with fail
      go_ret
      exact ⟨rfl, HB4.o⟩
end Go.Proofs.YtekihjffefokjaaDoor
