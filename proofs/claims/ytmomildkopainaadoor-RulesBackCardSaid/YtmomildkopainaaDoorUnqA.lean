/-
  WALKS: quote.part.
-/
import Derived.Test.YtmomildkopainaaDoorUnqE
import Derived.Test.YtmomildkopainaaDoorRefGood
namespace Go.Proofs.YtmomildkopainaaDoor
open Go.RowKit

set_option maxHeartbeats 400000 in
set_option maxRecDepth 1000000 in
theorem part_any (t : ByteArray) (w : World) (hT : tabs w) (h0 : 0 < t.size) (hs : t.size ≤ 1099511627776) :
    Calls Tryd.prog 116 #[.string t, .int .i32 ((Utf8.decode t 0).1 : Int)] w (EscPost (partM t 0) w) := by
  have hdl := decode_le t 0
  by_cases h92 : byt t 0 = 92
  · have HN : Hq (partM t 0 = escM t 0) := hq (by unfold partM; rw [if_pos h92])
    have e1 : (((Utf8.decode t 0).1 : Int) == 92) = true := by rw [(dec_is t 0 92 (by omega)).2 h92]; rfl
    have HE := hq (escape_any t w hs)
    generalize (Utf8.decode t 0).1 = C at *
    generalize escM t 0 = o at *
    clear h92
    go_enter Tryd.func116, Tryd.ntmps116
    go_wp2_with fail
    refine HE.o.mono ?_
    rintro e w1 ⟨rfl, hb⟩
    go_wp2_with fail
    go_ret2
    exact ⟨by rw [HN.o]; rfl, hb⟩
  · have e1 : (((Utf8.decode t 0).1 : Int) == 92) = false := beq_eq_false_iff_ne.2 (fun h => h92 ((dec_is t 0 92 (by omega)).1 (by omega)))
    by_cases h32 : byt t 0 < 32
    · have HN : Hq (partM t 0 = none) := hq (by unfold partM; rw [if_neg h92, if_pos h32])
      have e2 : ((Utf8.decode t 0).1 : Int) < 32 := by rw [dec_low t 0 (by omega)]; simp only; omega
      generalize (Utf8.decode t 0).1 = C at *
      clear h92 h32
      go_enter Tryd.func116, Tryd.ntmps116
      go_wp2_with fail
      go_ret2
      exact EscPost.no HN.o (Below.refl _ _)
    · have e2 : ¬ ((Utf8.decode t 0).1 : Int) < 32 := by
        by_cases hl : byt t 0 < 128
        · rw [dec_low t 0 hl]; simp only; omega
        · have := dec_high t 0 (by omega); omega
      have hnx := next_any t 0 w hT (by unfold maxLen; omega) (by omega)
      have hnt : nxt t 0 = (((Utf8.decode t 0).1 : Int), ((Utf8.decode t 0).2 : Int)) := nxt_in t 0 h0
      rw [hnt] at hnx
      have HP : Hq (partM t 0 = if (Utf8.decode t 0).1 = 65533 ∧ (Utf8.decode t 0).2 = 1 then none else some ((Utf8.decode t 0).1, (Utf8.decode t 0).2)) := hq (by
        unfold partM
        rw [if_neg h92, if_neg h32]
        by_cases hb : bad t 0
        · rw [if_pos hb]; exact (if_pos hb).symm
        · rw [if_neg hb]; exact (if_neg hb).symm)
      clear hnt h92 h32
      generalize (Utf8.decode t 0).1 = C at *
      generalize (Utf8.decode t 0).2 = K at *
      generalize partM t 0 = R at *
      have HNX := hq hnx
      clear hnx
      by_cases hC : C = 65533
      · have e3 : ((C : Int) == 65533) = true := by rw [hC]; rfl
        by_cases hK : K = 1
        · have HN := hq (HP.o.trans (if_pos ⟨hC, hK⟩))
          have e4 : ((K : Int) == 1) = true := by rw [hK]; rfl
          clear HP hC hK
          go_enter Tryd.func116, Tryd.ntmps116
          go_wp2_with fail
          refine HNX.o.mono ?_
          rintro e w1 ⟨rfl, hb⟩
          go_wp2_with fail
          go_ret2
          exact EscPost.no HN.o hb
        · have HN := hq (HP.o.trans (if_neg (fun h => hK h.2)))
          have e4 : ((K : Int) == 1) = false := beq_eq_false_iff_ne.2 (by omega)
          clear HP hC hK
          go_enter Tryd.func116, Tryd.ntmps116
          go_wp2_with fail
          refine HNX.o.mono ?_
          rintro e w1 ⟨rfl, hb⟩
          go_wp2_with fail
          go_ret2
          exact EscPost.mk HN.o rfl rfl hb
      · have HN := hq (HP.o.trans (if_neg (fun h => hC h.1)))
        have e3 : ((C : Int) == 65533) = false := beq_eq_false_iff_ne.2 (by omega)
        clear HP hC
        go_enter Tryd.func116, Tryd.ntmps116
        go_wp2_with fail
        refine HNX.o.mono ?_
        rintro e w1 ⟨rfl, hb⟩
        go_wp2_with fail
        go_ret2
        exact EscPost.mk HN.o rfl rfl hb
end Go.Proofs.YtmomildkopainaaDoor
