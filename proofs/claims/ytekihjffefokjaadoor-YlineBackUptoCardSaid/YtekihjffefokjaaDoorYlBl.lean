/-
  THE WALK OF THE LAW YlineBack.
-/
import Derived.Test.YtekihjffefokjaaDoorYlBk
import Derived.Test.YtekihjffefokjaaDoorYlSm
namespace Go.Proofs.YtekihjffefokjaaDoor
open Go.RowKit

theorem st_self (s : ByteArray) : st s.data.toList = s := by refine ba_ext ?_; simp [st]
theorem st_len (l : Bs) : (st l).size = l.length := by simp [st, ByteArray.size]
set_option maxHeartbeats 4000000 in
set_option maxRecDepth 1000000 in
theorem lback_any (F s B : ByteArray) (w : World) (hT : tabs w) (hm : mx w) (hF : F.size ≤ 1048576) (hs : s.size ≤ 1048576) (hB : B.size ≤ 1048576) :
    Calls Tryd.prog 5 #[.string F, .string s, .string B] w fun e w' => e = .returned (.bool true) ∧ Below w.heap.size w w' := by
  have HSM := hq (fun W (hW : tabs W) (hM : mx W) => ysmall_any W hW hM)
  have HQ := hq (fun W (hW : tabs W) (hM : mx W) => quoted_any s W hW hM (by omega))
  have HQM : Hq (quotedM s = if cleanM s false = s.size then (39 :: dblB s.data.toList ++ [39], 0) else ([], 2)) := hq rfl
  have HT := hq hT
  have HM := hq hm
  generalize quotedM s = R at *
  clear hT hm
  by_cases hc : cleanM s false = s.size
  · have hR := HQM.o.trans (if_pos hc)
    subst hR
    clear HQM
    have HSB := hq (fun hb => sgl_quoted s F B hc hb)
    have hdl := dblB_len s.data.toList
    have hds : s.data.toList.length = s.size := Array.length_toList
    have hql : (39 :: dblB s.data.toList ++ [39]).length ≤ 2 * s.size + 2 := by
      rw [List.length_append, List.length_cons, List.length_cons, List.length_nil]
      omega
    generalize 39 :: dblB s.data.toList ++ [39] = Q at *
    clear hc hdl hds
    have hqs := st_len Q
    have hz1 : F.size + (st Q).size ≤ 8388608 := by rw [hqs]; omega
    have hz2 : (F ++ st Q).size + B.size ≤ 8388608 := by rw [ByteArray.size_append, hqs]; omega
    have HSG := hq (fun W (hW : tabs W) => single_any (F ++ st Q ++ B) (F.size : Int) W hW (by rw [ByteArray.size_append]; omega) (by omega))
    have HQS := hq hqs
    clear hqs
    have byt0 : ∀ hp : 0 < B.size, (((B[0]'hp).toNat : Nat) : Int) = (byt B 0 : Int) := fun hp => by rw [byt_eq B 0 hp]
    by_cases hb0 : 0 < B.size
    · have y0 := byt0 hb0
      have hb0' : (0 : Int) < (B.size : Int) := by omega
      by_cases h39 : byt B 0 = 39
      · have e1 : ((byt B 0 : Int) == 39) = true := beq_int_true h39
        clear HSB h39 byt0
        generalize byt B 0 = cb at *
        go_enter Tryd.func5, Tryd.ntmps5
        go_wp2_with fail
        refine (HSM.o _ HT.o HM.o).mono ?_
        rintro e w1 ⟨rfl, hb1⟩
        have HT1 := hq (tabs_grow HT.o hb1)
        have HM1 := hq (mx_grow HM.o hb1)
        have HB1 := hq hb1
        clear hb1 HSM
        go_wp2_with fail
        refine (HQ.o _ HT1.o HM1.o).mono ?_
        rintro e w2 ⟨rfl, hb2⟩
        have HB2 := hq (below_trans HB1.o hb2)
        clear hb2 HQ
        go_wp2_with fail
        go_ret
        exact ⟨rfl, HB2.o⟩
      · have e1 : ((byt B 0 : Int) == 39) = false := beq_int_false h39
        have HV := hq (HSB.o (fun l hl => h39 (by rw [(drop_cons (k := 0) (by rw [List.drop_zero]; exact hl)).2.1]; rfl)))
        rw [HV.o] at HSG
        clear HSB h39 byt0 HV
        generalize byt B 0 = cb at *
        go_enter Tryd.func5, Tryd.ntmps5
        go_wp2_with fail
        refine (HSM.o _ HT.o HM.o).mono ?_
        rintro e w1 ⟨rfl, hb1⟩
        have HT1 := hq (tabs_grow HT.o hb1)
        have HM1 := hq (mx_grow HM.o hb1)
        have HB1 := hq hb1
        clear hb1 HSM
        go_wp2_with fail
        refine (HQ.o _ HT1.o HM1.o).mono ?_
        rintro e w2 ⟨rfl, hb2⟩
        have HB2 := hq (below_trans HB1.o hb2)
        have HT2 := hq (tabs_grow HT1.o hb2)
        clear hb2 HQ
        go_wp2_with fail
        refine (HSG.o _ HT2.o).mono ?_
        rintro e w3 ⟨rfl, hb3⟩
        have HB3 := hq (below_trans HB2.o hb3)
        clear hb3 HSG HB2
        dsimp only
        rw [st_self]
        have e6 : ((F.size + Q.length : Nat) : Int) = (F.size : Int) + ((st Q).size : Int) := by rw [HQS.o]; omega
        rw [e6]
        have e7 : ((F.size : Int) + ((st Q).size : Int) == (F.size : Int) + ((st Q).size : Int)) = true := beq_self_eq_true _
        clear e6
        go_wp2_with fail
        go_ret
        exact ⟨rfl, HB3.o⟩
    · have hb0' : ¬ (0 : Int) < (B.size : Int) := by omega
      have HV := hq (HSB.o (fun l hl => by
        have h1 := congrArg List.length hl
        rw [Array.length_toList, List.length_cons] at h1
        have h2 : B.data.size = B.size := rfl
        omega))
      rw [HV.o] at HSG
      clear HSB byt0 HV
      go_enter Tryd.func5, Tryd.ntmps5
      go_wp2_with fail
      refine (HSM.o _ HT.o HM.o).mono ?_
      rintro e w1 ⟨rfl, hb1⟩
      have HT1 := hq (tabs_grow HT.o hb1)
      have HM1 := hq (mx_grow HM.o hb1)
      have HB1 := hq hb1
      clear hb1 HSM
      go_wp2_with fail
      refine (HQ.o _ HT1.o HM1.o).mono ?_
      rintro e w2 ⟨rfl, hb2⟩
      have HB2 := hq (below_trans HB1.o hb2)
      have HT2 := hq (tabs_grow HT1.o hb2)
      clear hb2 HQ
      go_wp2_with fail
      refine (HSG.o _ HT2.o).mono ?_
      rintro e w3 ⟨rfl, hb3⟩
      have HB3 := hq (below_trans HB2.o hb3)
      clear hb3 HSG HB2
      dsimp only
      rw [st_self]
      have e6 : ((F.size + Q.length : Nat) : Int) = (F.size : Int) + ((st Q).size : Int) := by rw [HQS.o]; omega
      rw [e6]
      have e7 : ((F.size : Int) + ((st Q).size : Int) == (F.size : Int) + ((st Q).size : Int)) = true := beq_self_eq_true _
      clear e6
      go_wp2_with fail
      go_ret
      exact ⟨rfl, HB3.o⟩
  · have hR := HQM.o.trans (if_neg hc)
    subst hR
    clear HQM hc
    go_enter Tryd.func5, Tryd.ntmps5
    go_wp2_with fail
    refine (HSM.o _ HT.o HM.o).mono ?_
    rintro e w1 ⟨rfl, hb1⟩
    have HT1 := hq (tabs_grow HT.o hb1)
    have HM1 := hq (mx_grow HM.o hb1)
    have HB1 := hq hb1
    clear hb1 HSM
    go_wp2_with fail
    refine (HQ.o _ HT1.o HM1.o).mono ?_
    rintro e w2 ⟨rfl, hb2⟩
    have HB2 := hq (below_trans HB1.o hb2)
    clear hb2 HQ
    go_wp2_with fail
    go_ret
    exact ⟨rfl, HB2.o⟩
end Go.Proofs.YtekihjffefokjaaDoor
