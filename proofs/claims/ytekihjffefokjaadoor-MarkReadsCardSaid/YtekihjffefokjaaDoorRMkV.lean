/-
  WALKS: the document's Decode of layer 25.
-/
import Derived.Test.YtekihjffefokjaaDoorRMkN
namespace Go.Proofs.YtekihjffefokjaaDoor
open Go.RowKit

theorem parse_right (l : Bs) : (parseM l).1.right = true := by
  unfold parseM
  split
  · rfl
  · split
    · rfl
    · split
      · rfl
      · split
        · assumption
        · rfl
theorem at_cut {s m t r : Bs} {p : Nat} (h : cutL m (s.drop p) = some (t, r)) : s.drop (p + t.length + m.length) = r ∧ (s.drop p).take t.length = t ∧ (p ≤ s.length → p + t.length + m.length ≤ s.length) := by
  have hi := cutL_is h
  refine ⟨?_, ?_, fun hp => ?_⟩
  · rw [Nat.add_assoc, ← List.drop_drop, hi, ← List.append_assoc, ← List.length_append, List.drop_left]
  · rw [hi, List.take_left]
  · have := congrArg List.length hi
    rw [List.length_drop, List.length_append, List.length_append] at this
    omega
theorem rfind_no (s t : Bs) (z : Int) (k : Nat) (w : World) (hz : z = (k : Int)) (ht : t ≠ []) (hs : s.length ≤ 1099511627776) (htl : t.length ≤ 1099511627776) (hk : k ≤ s.length + 1) (hc : cutL t (s.drop k) = none) :
    Calls Tryd.prog 66 #[.string (st s), .string (st t), .int .i64 z] w fun e w' => e = .returned (.int .i64 (-1)) ∧ w = w' := by
  subst hz
  refine (rfind_any s t k w ht hs htl hk).mono ?_
  rintro e w' ⟨rfl, rfl⟩
  unfold findR
  rw [hc]
  exact ⟨rfl, rfl⟩
theorem rfind_yes (s t a b : Bs) (z : Int) (k j : Nat) (w : World) (hz : z = (k : Int)) (hj : j = k + a.length) (ht : t ≠ []) (hs : s.length ≤ 1099511627776) (htl : t.length ≤ 1099511627776) (hk : k ≤ s.length + 1) (hc : cutL t (s.drop k) = some (a, b)) :
    Calls Tryd.prog 66 #[.string (st s), .string (st t), .int .i64 z] w fun e w' => e = .returned (.int .i64 (j : Int)) ∧ w = w' := by
  subst hz hj
  refine (rfind_any s t k w ht hs htl hk).mono ?_
  rintro e w' ⟨rfl, rfl⟩
  unfold findR
  rw [hc]
  exact ⟨rfl, rfl⟩
theorem mark_cat (n : Nat) (c : UInt8) : (st [10] ++ sgB n c : ByteArray) = st (mrk c n) := by unfold sgB; rw [cat_st]; rfl
section
variable (n : Nat) (c : UInt8) (s a b : Bs) (z : Int) (k j : Nat) (w : World)
theorem mfind_no (hn : n ≤ 1000000) (hz : z = (k : Int)) (hs : s.length ≤ 1000000) (hk : k ≤ s.length + 1) (hc : cutL (mrk c n) (s.drop k) = none) :
    Calls Tryd.prog 66 #[.string (st s), .string (st [10] ++ sgB n c), .int .i64 z] w fun e w' => e = .returned (.int .i64 (-1)) ∧ w = w' := by
  rw [mark_cat]
  exact rfind_no s _ z k w hz (mrk_ne _ _) (by omega) (by rw [mrk_len]; omega) hk hc
theorem mfind_yes (hn : n ≤ 1000000) (hz : z = (k : Int)) (hj : j = k + a.length) (hs : s.length ≤ 1000000) (hk : k ≤ s.length + 1) (hc : cutL (mrk c n) (s.drop k) = some (a, b)) :
    Calls Tryd.prog 66 #[.string (st s), .string (st [10] ++ sgB n c), .int .i64 z] w fun e w' => e = .returned (.int .i64 (j : Int)) ∧ w = w' := by
  rw [mark_cat]
  exact rfind_yes s _ a b z k j w hz hj (mrk_ne _ _) (by omega) (by rw [mrk_len]; omega) hk hc
theorem rsg_any (y : Int) (hy : (c.toNat : Int) = y) (h0 : 1 ≤ n) (hn : n ≤ 1000000) :
    Calls Tryd.prog 59 #[.int .u8 y, .int .i64 (n : Int)] w fun e w' => e = .returned (.string (sgB n c)) ∧ Below w.heap.size w w' := by
  subst hy
  exact rsigns_any c n w h0 (by omega)
end
/-- append to a row of the call's own, inside a region that draws -/
theorem step_part {ops : Array Oper} {o : Oper} {a : Act} {w : World} {K : Act → World → Prop} {Q : Exit → Act → World → Prop} {E : Prop} (hg : o.guard = none) (s x : Operand) (t : TypeId)
    (ho : o.op = .call { callee := .builtin .append, args := #[s, x], argTypes := #[t, t] })
    (base : Nat) (e : TypeId) (i : TypeInfo) (z : Value) (size bytes : Nat) (ht : Tryd.prog.underlying t = some (.slice e)) (hi : Tryd.prog.info? e = some i) (hz : i.zero = some z)
    (hsize : i.size = size) (hby : i.bytes = bytes) (hzs : z.cells.size = size) (hsz : 0 < size)
    (v : Value) (n : Nat) (xs : List Value) (hs : a.eval s = v) (hown : w.ownsRow base e size v n xs)
    (ad : Addr) (m c : Nat) (news : List Value) (hx : a.eval x = .slice (some ad) m c) (hl : news.length = m * size) (hnews : ∀ j u, news[j]? = some u → w.cell? (ad.add j) = some u) (h1 : ∀ u ∈ news, u.oneCell' = true)
    (h63 : n + m ≤ maxLen) (hbytes : (n + m) * bytes ≤ 140737488355328) (hbase : base ≤ w.heap.size)
    (h : ∀ v' w', w'.ownsRow base e size v' (n + m) (xs ++ news) → w.grownBy w' v.ownBlock → (v' = .slice none 0 0 ↔ v = .slice none 0 0 ∧ m = 0) → K (a.put o.dst v') w') :
    if Region.wanted o (yielded ops a.tmps) = true then Oper.wp Tryd.prog o a w K Q else E := by
  rw [if_pos (by simp [Region.wanted, hg])]
  exact wp_append_own w s x t ho base e i z size bytes ht hi hz hsize hby hzs hsz v n xs hs hown ad m c news hx hl hnews h1 h63 hbytes hbase h
set_option maxHeartbeats 8000000 in
set_option maxRecDepth 1000000 in
theorem rdec_any (s : Bs) (w : World) (hs : s.length ≤ 4096) :
    Calls Tryd.prog 34 #[.string (st s)] w (PartsPost (decM s) w) := by
  obtain ⟨i0, hi, hz0, hz1, hz2⟩ := info_parts infoPart
  have HP0 : Hq (decM s = none → ∀ w', Below w.heap.size w w' → PartsPost (decM s) w (.returned (.tuple #[.slice none 0 0, .bool false])) w') := hq (fun h w' hw => by rw [h]; exact ⟨rfl, hw⟩)
  have HP1 : Hq (∀ L, decM s = some L → ∀ v w', PRow w' w.heap.size v L → Below w.heap.size w w' → PartsPost (decM s) w (.returned (.tuple #[v, .bool true])) w') := hq (fun L h v w' hr hw => by rw [h]; exact ⟨⟨v, rfl, hr⟩, hw⟩)
  have HD1 := hq (@decM_none1 s)
  have HD2 := hq (@decM_none2 s)
  have HD3 := hq (fun (h body : Bs) (hc : cutL [10] s = some (h, body)) => decM_none3 hc (by omega))
  have HD4 := hq (fun (h body : Bs) (hc : cutL [10] s = some (h, body)) (n : Nat) => @decM_at s h body hc (by omega) n)
  generalize PartsPost (decM s) w = PP at *
  generalize decM s = DD at *
  have hz10 : (1 : Nat) ≤ 1099511627776 := by omega
  go_enter Tryd.func34, Tryd.ntmps34
  cases hc : cutL [10] s with
  | none =>
    have HF := hq (fun W => rfind_no s [10] 0 0 W rfl (by simp) (by omega) hz10 (by omega) hc)
    have HN := hq (HP0.o (HD1.o hc))
    clear HP0 HP1 HD1 HD2 HD3 HD4
    go_wp2_with fail
    refine (HF.o _).mono ?_
    rintro e w1 ⟨rfl, rfl⟩
    go_wp2_with fail
    exact HN.o _ (Below.refl _ _)
  | some hx =>
    obtain ⟨h, body⟩ := hx
    have HF := hq (fun W => rfind_yes s [10] h body 0 0 h.length W rfl (by omega) (by simp) (by omega) hz10 (by omega) hc)
    have hcl := cutL_len hc
    simp only [List.length_cons, List.length_nil] at hcl
    have HSE := hq (cutL_is hc)
    have HCL := hq hcl
    have hcl1 : h.length + 1 ≤ s.length := by omega
    have hcl2 : body.length ≤ s.length := by omega
    have HD2' := hq (HD2.o hc)
    have HD3' := hq (HD3.o h body hc)
    have HD4' := hq (HD4.o h body hc)
    clear HD1 HD2 HD3 HD4 hc hcl
    by_cases h8 : h.length < 8
    · have h8' : (h.length : Int) < 8 := by omega
      have HN := hq (HP0.o (HD2'.o (.inl h8)))
      clear HP0 HP1 HD2' HD3' HD4'
      go_wp2_with fail
      refine (HF.o _).mono ?_
      rintro e w1 ⟨rfl, rfl⟩
      go_wp2_with fail
      exact HN.o _ (Below.refl _ _)
    have h8' : ¬ (h.length : Int) < 8 := by omega
    have hd8 : decide ((h.length : Int) < 8) = false := decide_eq_false h8'
    have ht7 : s.take 7 = h.take 7 := by rw [HSE.o, List.take_append_of_le_length (by omega)]
    have hx7 : (st s).extract 0 7 = st (h.take 7) := by rw [cut_left, ht7]
    have hxk : (st s).extract 7 h.length = st (h.drop 7) := by
      rw [extract_st, st_list, HSE.o, List.drop_append_of_le_length (by omega), List.take_append_of_le_length (by rw [List.length_drop]; omega), List.take_of_length_le (by rw [List.length_drop]; omega)]
    by_cases hh7 : h.take 7 = headL
    · rw [hh7] at hx7
      unfold headL at hx7
      have hbd : body = s.drop (h.length + 1) := by
        rw [HSE.o, ← List.append_assoc, List.drop_left' (by simp)]
      have hprs := parse_right (h.drop 7)
      have HPA := hq (fun W => rparse_any (h.drop 7) W (by rw [List.length_drop]; omega))
      have HNR : Hq (numR (h.drop 7) = if (parseM (h.drop 7)).2 = 0 ∧ (intM (parseM (h.drop 7)).1).2 = true then some (intM (parseM (h.drop 7)).1).1 else none) := hq rfl
      unfold PPost at HPA
      clear hh7 ht7 HD2'
      go_wp2_with fail
      refine (HF.o _).mono ?_
      rintro e w1 ⟨rfl, rfl⟩
      clear HF
      go_wp2_with fail
      refine (HPA.o _).mono ?_
      rintro e w1 ⟨rfl, hb1⟩
      generalize parseM (h.drop 7) = PR at *
      obtain ⟨⟨dn, dd, de⟩, pe⟩ := PR
      simp only at hprs HNR
      obtain ⟨hdl, hde0, hde1⟩ := right_bd hprs
      have HIT := hq (fun W => rint_any dn dd de W (by omega) ⟨by omega, by omega⟩)
      unfold IntPost at HIT
      generalize intM ⟨dn, dd, de⟩ = IR at *
      obtain ⟨iv, ib⟩ := IR
      simp only at HNR
      have hbA := below_trans hb1 (below_alloc w1 (.cells #[.bool dn, .string (st dd), .int .i64 de] 93))
      have HBA := hq hbA
      have HWA := hq (Whole.made w1 93 #[.bool dn, .string (st dd), .int .i64 de])
      clear hb1 HPA hprs hbA
      simp only [Dec.val]
      obtain ⟨x0, x1, x2⟩ := three_cells HWA.o
      go_wp2_with fail
      generalize (w1.alloc (.cells #[.bool dn, .string (st dd), .int .i64 de] 93)) = wa at *
      refine (HIT.o _).mono ?_
      rintro e w2 ⟨rfl, hb2⟩
      have HB2 := hq (below_trans HBA.o hb2)
      clear HIT hb2 HBA HWA x0 x1 x2
      by_cases hpe : pe = 0
      · cases ib with
        | false =>
          have hpe' : (pe != 0) = false := by rw [hpe]; rfl
          have HN := hq (HP0.o (HD3'.o (fun n hn => by rw [HNR.o, if_neg (by simp)] at hn; cases hn)) _ HB2.o)
          clear HP0 HP1 HD3' HD4' HNR
          go_wp2_with fail
          exact HN.o
        | true =>
          have hnr : numR (h.drop 7) = some iv := by rw [HNR.o, if_pos ⟨hpe, rfl⟩]
          have HNR2 := hq hnr
          have hpe' : (pe != 0) = false := by rw [hpe]; rfl
          clear HNR hnr
          by_cases h7 : iv < 7
          · have HN := hq (HP0.o (HD3'.o (fun n hn => by rw [HNR2.o] at hn; have := Option.some.inj hn; omega)) _ HB2.o)
            clear HP0 HP1 HD3' HD4' HNR2
            go_wp2_with fail
            exact HN.o
          by_cases hgr : (s.length : Int) < iv
          · have HN := hq (HP0.o (HD3'.o (fun n hn => by rw [HNR2.o] at hn; have := Option.some.inj hn; omega)) _ HB2.o)
            clear HP0 HP1 HD3' HD4' HNR2
            go_wp2_with fail
            exact HN.o
          obtain ⟨n, rfl⟩ : ∃ n : Nat, iv = (n : Int) := ⟨iv.toNat, by omega⟩
          have HDA : Hq (DD = decAt s (partsM n (body.length + 1) body)) := hq (HD4'.o n HNR2.o)
          have h1n : 1 ≤ n := by omega
          have hgn : ¬ s.length < n := by omega
          have hgd : decide (s.length < n) = false := decide_eq_false hgn
          have h7d : decide ((n : Int) < 7) = false := decide_eq_false h7
          have hnM : n ≤ 1000000 := by omega
          have HSG := hq (fun (c : UInt8) (y : Int) (hy : (c.toNat : Int) = y) (W : World) => rsg_any n c W y hy h1n hnM)
          have HSZ := sgB_size n
          have HFN := hq (fun (c : UInt8) (z : Int) (k : Nat) (W : World) (hz : z = (k : Int)) (hk : k ≤ s.length + 1) (hc : cutL (mrk c n) (s.drop k) = none) => mfind_no n c s z k W hnM hz (by omega) hk hc)
          have HFY := hq (fun (c : UInt8) (a b : Bs) (z : Int) (k j : Nat) (W : World) (hz : z = (k : Int)) (hj : j = k + a.length) (hk : k ≤ s.length + 1) (hc : cutL (mrk c n) (s.drop k) = some (a, b)) => mfind_yes n c s a b z k j W hnM hz hj (by omega) hk hc)
          have HRP : Hq (partsM n (body.length + 1) body = (partsM n (body.length + 1) (s.drop (h.length + 1))).map fun l => [] ++ l) := hq (by rw [← hbd]; cases partsM n (body.length + 1) body <;> rfl)
          have HLN : Hq (∀ L, partsM n (body.length + 1) body = some L → ∀ x ∈ L, Lens 4096 x) := hq (fun L hL => parts_lens n 4096 _ body L (by omega) hL)
          have hbl : (s.drop (h.length + 1)).length < body.length + 1 := by have := HCL.o; rw [List.length_drop]; omega
          generalize partsM n (body.length + 1) body = RP at *
          have hz60 := HSZ 60
          have hz124 := HSZ 124
          have hz61 := HSZ 61
          have hz62 := HSZ 62
          generalize sgB n = SG at *
          clear HD3' HD4' HNR2 hx7 hxk hbd HSZ
          generalize hp0 : h.length + 1 = p0 at *
          go_wp2_with fail
          go_loopw [9, 10] (fun v i wr => ∃ (p f : Nat) (acc : List MPart), p ≤ s.length ∧ i = .int .i64 (p : Int) ∧ Hq (PRow wr w.heap.size v acc) ∧ Hq (Below w.heap.size w wr) ∧ Hq (RP = (partsM n f (s.drop p)).map fun l => acc ++ l) ∧ (s.drop p).length < f ∧ acc.length ≤ p) (fun _ i _ => s.length + 1 - (intOf i).toNat)
          case atStart => exact ⟨p0, body.length + 1, [], by omega, int_eq (by omega), hq (World.ownsRow_nil _ _ _ _), HB2, HRP, hbl, Nat.zero_le _⟩
          case round =>
            obtain ⟨p, f, acc, hp, rfl, hrow, hb, hR, hf, hal⟩ := hrel
            clear HB2 HRP hbl
            obtain ⟨f, rfl⟩ : ∃ g, f = g + 1 := ⟨f - 1, by omega⟩
            obtain ⟨ro, rc, rfl, hrlc, hrcm, hrin⟩ := prow_in hrow.o
            clear hrin
            have hle : (p : Int) ≤ (s.length : Int) := by omega
            have hbw := hb.o.size
            cases hc1 : cutL (mrk 60 n) (s.drop p) with
            | none =>
              have HF1 := hq (fun W => HFN.o 60 (p : Int) p W rfl (by omega) hc1)
              clear HFN HFY
              go_wp2_with fail
              refine (HSG.o 60 60 rfl _).mono ?_
              rintro e w3 ⟨rfl, hb3⟩
              have HB3 := hq (hb.o.trans (hb3.mono hbw))
              have HR3 := hq (hrow.o.grow hb3)
              have hws : w.heap.size ≤ w3.heap.size := HB3.o.size
              clear hb3 hrow hb HSG
              go_wp2_with fail
              refine (HF1.o _).mono ?_
              rintro e w4 ⟨rfl, rfl⟩
              clear HF1
              by_cases hlt : p < s.length
              · have hlti : (p : Int) < (s.length : Int) := by omega
                have hne : s.drop p ≠ [] := by intro h0; have := congrArg List.length h0; rw [List.length_drop, List.length_nil] at this; omega
                have HRL : Hq (RP = some (acc ++ [txt (s.drop p)])) := hq (by rw [hR.o, parts_last hne hc1])
                have HXE : Hq ((st s).extract p s.length = st (s.drop p)) := hq (by
                  have := ex_st s p (s.length - p)
                  rw [show p + (s.length - p) = s.length by omega] at this
                  rw [this, List.take_of_length_le (by rw [List.length_drop]; omega)])
                clear hR hc1 hne
                generalize s.drop p = T at *
                have hxe1 : (st s).extract p s.length = st T := HXE.o
                have hxe2 : (st s).extract p (st s).size = st T := by rw [st_size]; exact HXE.o
                go_wp2_with (at_builtin; refine wpList_append_own _ rfl _ _ 41 rfl w.heap.size 53 i0 (.agg #[.bool false, .string ⟨#[]⟩, .string ⟨#[]⟩, .string ⟨#[]⟩, .string ⟨#[]⟩]) 5 72 Tryd.underlying41 hi hz0 hz1 hz2 rfl (by decide) _ _ _ rfl (HR3.o.alloc _) ⟨w3.heap.size, 0, none⟩ 1 1 [.bool false, .string (st T), .string (st []), .string (st []), .string (st [])] rfl rfl (cells_of_new _ [.bool false, .string (st T), .string (st []), .string (st []), .string (st [])] _) (part_one _ _ _ _ _) (by unfold maxLen; omega) (by omega) (by rw [World.size_alloc]; omega) ?_)
                intro v' w4 hown4 hgrow4 _
                have hb4 := (HB3.o.alloc hws (.cells #[.bool false, .string (st T), .string (st []), .string (st []), .string (st [])] 53)).grown hgrow4 (by rw [World.size_alloc]; omega) (fun j ej => (HR3.o.lt j ej).1)
                have hr4 : PRow w4 w.heap.size v' (acc ++ [txt T]) := by unfold PRow; rw [partCells_snoc, List.length_append]; exact hown4
                have HR4 := hq hr4
                have HB4 := hq hb4
                clear hown4 hgrow4 hr4 hb4 HR3 HB3
                obtain ⟨o6, cap6, hv6, hlc6, hcm6, hin6⟩ := prow_in HR4.o
                first | subst hv6 | (obtain ⟨rfl, rfl⟩ : o6 = ro ∧ cap6 = rc := by injection hv6 with e1 _ e2; exact ⟨e1.symm, e2.symm⟩)
                have hln := HLN.o _ HRL.o
                have HDL : Hq (DD = decAt s (some (acc ++ [txt T]))) := hq (by rw [HDA.o, HRL.o])
                have HIN := hq hin6
                have hws4 := HB4.o.size
                clear hin6 HLN HDA HRL
                generalize (acc ++ [txt T]) = L at *
                go_wp2_with fail
                refine (renc_few 4096 o6 cap6 L w4 hlc6 hcm6 HIN.o (by decide) hln).mono ?_
                rintro e w6 ⟨rfl, hb6⟩
                have HB6 := hq (HB4.o.trans (hb6.mono hws4))
                have HR6 := hq (HR4.o.grow hb6)
                have HIN6 := hq (HIN.o.grow hb6)
                clear hb6 HB4 HR4 HIN
                cases hr : rightB L with
                | false =>
                  have HN := hq (HP0.o (by rw [HDL.o, decAt_some, if_neg (fun h => by rw [hr] at h; cases h.1)]) _ HB6.o)
                  simp only [Bool.false_eq_true, if_false]
                  clear HP0 HP1 HDL HR6 HIN6
                  go_wp2_with fail
                  exact HN.o
                | true =>
                  simp only [if_true]
                  by_cases hes : encM L = s
                  · have hse : (encM L == s) = true := beq_iff_eq.2 hes
                    have HHU := hq (fun W (hW : PartsIn W o6 L) => rhunks_any o6 cap6 L W hlc6 hcm6 hW)
                    cases ha : anyH L with
                    | false =>
                      have HN := hq (fun w' hw => HP0.o (by rw [HDL.o, decAt_some, if_neg (fun h => by rw [ha] at h; cases h.2.2)]) w' hw)
                      have hnh : nH L = 0 := by have := anyH_nH L; rw [ha] at this; have := of_decide_eq_false this.symm; omega
                      rw [hnh] at HHU
                      clear HP0 HP1 HDL HR6
                      have HES := hq hes
                      clear hes hnh
                      go_wp2_with fail
                      refine (HHU.o _ HIN6.o).mono ?_
                      rintro e w7 ⟨rfl, hb7⟩
                      have HB7 := hq (HB6.o.trans (hb7.mono HB6.o.size))
                      clear hb7 HHU
                      go_wp2_with fail
                      exact HN.o _ HB7.o
                    | true =>
                      have HN := hq (HP1.o L (by rw [HDL.o, decAt_some, if_pos ⟨hr, hes, ha⟩]))
                      have hnh : 0 < nH L := by have := anyH_nH L; rw [ha] at this; exact of_decide_eq_true this.symm
                      have hnz : ((nH L : Int) == 0) = false := beq_eq_false_iff_ne.2 (by omega)
                      clear HP0 HP1 HDL
                      have HES := hq hes
                      clear hes hnh
                      go_wp2_with fail
                      refine (HHU.o _ HIN6.o).mono ?_
                      rintro e w7 ⟨rfl, hb7⟩
                      have HB7 := hq (HB6.o.trans (hb7.mono HB6.o.size))
                      have HR7 := hq (HR6.o.grow hb7)
                      clear hb7 HHU HR6
                      go_wp2_with fail
                      exact HN.o _ _ HR7.o HB7.o
                  · have hse : (encM L == s) = false := beq_eq_false_iff_ne.2 hes
                    have HN := hq (HP0.o (by rw [HDL.o, decAt_some, if_neg (fun h => hes h.2.1)]) _ HB6.o)
                    clear HP0 HP1 HDL HR6 HIN6
                    have HES := hq hes
                    clear hes
                    go_wp2_with fail
                    exact HN.o
              · have hlti : ¬ (p : Int) < (s.length : Int) := by omega
                have hnil : s.drop p = [] := List.drop_eq_nil_of_le (by omega)
                have HRL : Hq (RP = some acc) := hq (by rw [hR.o, hnil, partsM, if_pos rfl]; show some (acc ++ []) = _; rw [List.append_nil])
                clear hR hc1 hnil
                obtain ⟨w4, hw4⟩ : ∃ x, x = w3 := ⟨_, rfl⟩
                have HR4 : Hq (PRow w4 w.heap.size (.slice ro acc.length rc) acc) := hq (by rw [hw4]; exact HR3.o)
                have HB4 : Hq (Below w.heap.size w w4) := hq (by rw [hw4]; exact HB3.o)
                rw [← hw4]
                clear hw4 HR3 HB3 hws
                obtain ⟨o6, cap6, hv6, hlc6, hcm6, hin6⟩ := prow_in HR4.o
                first | subst hv6 | (obtain ⟨rfl, rfl⟩ : o6 = ro ∧ cap6 = rc := by injection hv6 with e1 _ e2; exact ⟨e1.symm, e2.symm⟩)
                have hln := HLN.o _ HRL.o
                have HDL : Hq (DD = decAt s (some (acc))) := hq (by rw [HDA.o, HRL.o])
                have HIN := hq hin6
                have hws4 := HB4.o.size
                clear hin6 HLN HDA HRL
                generalize (acc) = L at *
                go_wp2_with fail
                refine (renc_few 4096 o6 cap6 L w4 hlc6 hcm6 HIN.o (by decide) hln).mono ?_
                rintro e w6 ⟨rfl, hb6⟩
                have HB6 := hq (HB4.o.trans (hb6.mono hws4))
                have HR6 := hq (HR4.o.grow hb6)
                have HIN6 := hq (HIN.o.grow hb6)
                clear hb6 HB4 HR4 HIN
                cases hr : rightB L with
                | false =>
                  have HN := hq (HP0.o (by rw [HDL.o, decAt_some, if_neg (fun h => by rw [hr] at h; cases h.1)]) _ HB6.o)
                  simp only [Bool.false_eq_true, if_false]
                  clear HP0 HP1 HDL HR6 HIN6
                  go_wp2_with fail
                  exact HN.o
                | true =>
                  simp only [if_true]
                  by_cases hes : encM L = s
                  · have hse : (encM L == s) = true := beq_iff_eq.2 hes
                    have HHU := hq (fun W (hW : PartsIn W o6 L) => rhunks_any o6 cap6 L W hlc6 hcm6 hW)
                    cases ha : anyH L with
                    | false =>
                      have HN := hq (fun w' hw => HP0.o (by rw [HDL.o, decAt_some, if_neg (fun h => by rw [ha] at h; cases h.2.2)]) w' hw)
                      have hnh : nH L = 0 := by have := anyH_nH L; rw [ha] at this; have := of_decide_eq_false this.symm; omega
                      rw [hnh] at HHU
                      clear HP0 HP1 HDL HR6
                      have HES := hq hes
                      clear hes hnh
                      go_wp2_with fail
                      refine (HHU.o _ HIN6.o).mono ?_
                      rintro e w7 ⟨rfl, hb7⟩
                      have HB7 := hq (HB6.o.trans (hb7.mono HB6.o.size))
                      clear hb7 HHU
                      go_wp2_with fail
                      exact HN.o _ HB7.o
                    | true =>
                      have HN := hq (HP1.o L (by rw [HDL.o, decAt_some, if_pos ⟨hr, hes, ha⟩]))
                      have hnh : 0 < nH L := by have := anyH_nH L; rw [ha] at this; exact of_decide_eq_true this.symm
                      have hnz : ((nH L : Int) == 0) = false := beq_eq_false_iff_ne.2 (by omega)
                      clear HP0 HP1 HDL
                      have HES := hq hes
                      clear hes hnh
                      go_wp2_with fail
                      refine (HHU.o _ HIN6.o).mono ?_
                      rintro e w7 ⟨rfl, hb7⟩
                      have HB7 := hq (HB6.o.trans (hb7.mono HB6.o.size))
                      have HR7 := hq (HR6.o.grow hb7)
                      clear hb7 HHU HR6
                      go_wp2_with fail
                      exact HN.o _ _ HR7.o HB7.o
                  · have hse : (encM L == s) = false := beq_eq_false_iff_ne.2 hes
                    have HN := hq (HP0.o (by rw [HDL.o, decAt_some, if_neg (fun h => hes h.2.1)]) _ HB6.o)
                    clear HP0 HP1 HDL HR6 HIN6
                    have HES := hq hes
                    clear hes
                    go_wp2_with fail
                    exact HN.o
            | some tr =>
              obtain ⟨t, r⟩ := tr
              obtain ⟨ha1, ha2, ha3⟩ := at_cut hc1
              rw [mrk_len] at ha1 ha3
              have hb1 := ha3 hp
              have hne : s.drop p ≠ [] := by
                intro h0
                have := cutL_len hc1
                rw [h0, mrk_len, List.length_nil] at this
                omega
              have HRZ := hq (hR.o.trans (parts_hunk hne hc1))
              obtain ⟨i1, hi1⟩ : ∃ x, x = p + t.length := ⟨_, rfl⟩
              have HF1 := hq (fun W => HFY.o 60 t r (p : Int) p i1 W rfl hi1 (by omega) hc1)
              obtain ⟨q1, hq1⟩ : ∃ x, x = i1 + n + 2 := ⟨_, rfl⟩
              have es1 : (i1 : Int) + (n : Int) + 2 = (q1 : Int) := by omega
              have HD2 : Hq (s.drop q1 = r) := hq (by rw [hq1, hi1, ← ha1]; congr 1)
              have HX1 : Hq ((st s).extract p i1 = st t) := hq (by rw [hi1, ex_st, ha2])
              have ht1 : t = [] → i1 = p := fun h => by rw [hi1, h]; rfl
              have ht2 : t ≠ [] → p < i1 := fun h => by
                have : t.length ≠ 0 := fun e => h (List.length_eq_zero_iff.1 e)
                omega
              have hp1a : p ≤ i1 := by omega
              have hp1b : i1 < q1 := by omega
              have hp1c : q1 ≤ s.length := by omega
              have hrl : r.length ≤ f := by
                have := cutL_len hc1
                rw [mrk_len] at this
                omega
              have HT1 := hq ht1
              have HT2 := hq ht2
              have hal2 : (acc ++ if t = [] then [] else [txt t]).length ≤ acc.length + 1 := by rw [List.length_append]; split <;> simp
              have HA2 : Hq ((t = [] → (acc ++ if t = [] then [] else [txt t]) = acc) ∧ (t ≠ [] → (acc ++ if t = [] then [] else [txt t]) = acc ++ [txt t])) := hq ⟨fun h => by rw [if_pos h, List.append_nil], fun h => by rw [if_neg h]⟩
              generalize (acc ++ if t = [] then [] else [txt t]) = acc2 at *
              clear hR hc1 hne ha1 ha2 ha3 hb1 hi1 hq1 ht1 ht2
              go_wp2_with fail
              refine (HSG.o 60 60 rfl _).mono ?_
              rintro e w3 ⟨rfl, hb3⟩
              have HB3 := hq (hb.o.trans (hb3.mono hbw))
              have HR3 := hq (hrow.o.grow hb3)
              have hws : w.heap.size ≤ w3.heap.size := HB3.o.size
              clear hb3 hrow hb
              go_wp2_with fail
              refine (HF1.o _).mono ?_
              rintro e w4 ⟨rfl, rfl⟩
              clear HF1
              go_upto_if 71 with fail
              go_cut [9] from 57 to 140 (fun v wx => (∃ vb vn vc, v = .slice vb vn vc) ∧ Hq (PRow wx w.heap.size v acc2) ∧ Hq (Below w.heap.size w wx))
              case first =>
                by_cases ht : t = []
                · have HEQ := hq (HA2.o.1 ht)
                  have hip : ¬ (p : Int) < (i1 : Int) := by have := HT1.o ht; omega
                  clear HA2 HT1 HT2 ht
                  go_wp2_with fail
                  go_meet
                  exact ⟨⟨_, _, _, rfl⟩, hq (by rw [HEQ.o]; exact HR3.o), HB3⟩
                · have HEQ := hq (HA2.o.2 ht)
                  have hip : (p : Int) < (i1 : Int) := by have := HT2.o ht; omega
                  have hii : (i1 : Int) ≤ (s.length : Int) := by omega
                  clear HA2 HT1 HT2 ht
                  have hx1 := HX1.o
                  go_wp2_with (at_builtin; refine wpList_append_own _ rfl _ _ 41 rfl w.heap.size 53 i0 (.agg #[.bool false, .string ⟨#[]⟩, .string ⟨#[]⟩, .string ⟨#[]⟩, .string ⟨#[]⟩]) 5 72 Tryd.underlying41 hi hz0 hz1 hz2 rfl (by decide) _ _ _ rfl (HR3.o.alloc _) ⟨w3.heap.size, 0, none⟩ 1 1 [.bool false, .string (st t), .string (st []), .string (st []), .string (st [])] rfl rfl (cells_of_new _ [.bool false, .string (st t), .string (st []), .string (st []), .string (st [])] _) (part_one _ _ _ _ _) (by unfold maxLen; omega) (by omega) (by rw [World.size_alloc]; omega) ?_)
                  intro v' w4 hown4 hgrow4 _
                  have hb4 := (HB3.o.alloc hws (.cells #[.bool false, .string (st t), .string (st []), .string (st []), .string (st [])] 53)).grown hgrow4 (by rw [World.size_alloc]; omega) (fun j ej => (HR3.o.lt j ej).1)
                  have hr4 : PRow w4 w.heap.size v' acc2 := by unfold PRow; rw [HEQ.o, partCells_snoc, List.length_append]; exact hown4
                  have hf4 := row_form hr4
                  have HR4 := hq hr4
                  have HB4 := hq hb4
                  have HF4 := hq hf4
                  clear hown4 hgrow4 hr4 hf4 hb4 HEQ
                  go_wp2_with fail
                  go_meet
                  exact ⟨HF4.o, HR4, HB4⟩
              case rest =>
                clear HR3 HB3 hws HA2 HT1 HT2 HX1
                obtain ⟨⟨ub, un, uc, rfl⟩, HW2, HB2⟩ := hcut
                have HRZ2 := HRZ
                clear HRZ
                cases hc2 : cutL (mrk 124 n) r with
                | none =>
                  have HN := hq (fun w' hw => HP0.o (by rw [HDA.o, HRZ2.o, mkz_no (c := 124) (by simp) hc2]; rfl) w' hw)
                  have HF2 := hq (fun W => HFN.o 124 (q1 : Int) q1 W rfl (by omega) (by rw [HD2.o]; exact hc2))
                  clear HP0 HP1 HRZ2 HDA hc2 HLN HFN HFY
                  go_wp2_with fail
                  refine (HSG.o 124 124 rfl _).mono ?_
                  rintro e w5 ⟨rfl, hb5⟩
                  have HB5 := hq (HB2.o.trans (hb5.mono HB2.o.size))
                  clear hb5
                  go_wp2_with fail
                  refine (HF2.o _).mono ?_
                  rintro e w6 ⟨rfl, rfl⟩
                  clear HF2 HSG
                  go_wp2_with fail
                  exact HN.o _ HB5.o
                | some tr2 =>
                  obtain ⟨b1, r1⟩ := tr2
                  have hac2 : cutL (mrk 124 n) (s.drop q1) = some (b1, r1) := by rw [HD2.o]; exact hc2
                  obtain ⟨ha1, ha2, ha3⟩ := at_cut hac2
                  rw [mrk_len] at ha1 ha3
                  have hb2 := ha3 (by omega)
                  have HRZ3 := hq (HRZ2.o.trans (mkz_0 hc2))
                  obtain ⟨a1, hv2⟩ : ∃ x, x = q1 + b1.length := ⟨_, rfl⟩
                  have HF2 := hq (fun W => HFY.o 124 b1 r1 (q1 : Int) q1 a1 W rfl hv2 (by omega) hac2)
                  obtain ⟨q2, hw2⟩ : ∃ x, x = a1 + n + 2 := ⟨_, rfl⟩
                  have es2 : (a1 : Int) + (n : Int) + 2 = (q2 : Int) := by omega
                  have HD3 : Hq (s.drop q2 = r1) := hq (by rw [hw2, hv2, ← ha1]; congr 1)
                  have hx2 : (st s).extract q1 a1 = st b1 := by rw [hv2, ex_st, ha2]
                  have hp2a : q1 ≤ a1 := by omega
                  have hp2b : a1 + 2 ≤ q2 := by omega
                  have hp2c : q2 ≤ s.length := by omega
                  have HX2 := hq hx2
                  clear hac2 ha1 ha2 ha3 hb2 hv2 hw2 hc2 HRZ2 hx2
                  go_wp2_with fail
                  refine (HSG.o 124 124 rfl _).mono ?_
                  rintro e w5 ⟨rfl, hb5⟩
                  have HB3 := hq (HB2.o.trans (hb5.mono HB2.o.size))
                  have HW3 := hq (HW2.o.grow hb5)
                  clear hb5 HB2 HW2
                  go_wp2_with fail
                  refine (HF2.o _).mono ?_
                  rintro e w9 ⟨rfl, rfl⟩
                  clear HF2
                  cases hc3 : cutL (mrk 61 n) r1 with
                  | none =>
                    have HN := hq (fun w' hw => HP0.o (by rw [HDA.o, HRZ3.o, mkz_no (c := 61) (by simp) hc3]; rfl) w' hw)
                    have HF3 := hq (fun W => HFN.o 61 (q2 : Int) q2 W rfl (by omega) (by rw [HD3.o]; exact hc3))
                    clear HP0 HP1 HRZ3 HDA hc3 HLN HFN HFY
                    go_wp2_with fail
                    refine (HSG.o 61 61 rfl _).mono ?_
                    rintro e w5 ⟨rfl, hb5⟩
                    have HB5 := hq (HB3.o.trans (hb5.mono HB3.o.size))
                    clear hb5
                    go_wp2_with fail
                    refine (HF3.o _).mono ?_
                    rintro e w6 ⟨rfl, rfl⟩
                    clear HF3 HSG
                    go_wp2_with fail
                    exact HN.o _ HB5.o
                  | some tr3 =>
                    obtain ⟨b0, r2⟩ := tr3
                    have hac3 : cutL (mrk 61 n) (s.drop q2) = some (b0, r2) := by rw [HD3.o]; exact hc3
                    obtain ⟨ha1, ha2, ha3⟩ := at_cut hac3
                    rw [mrk_len] at ha1 ha3
                    have hb3 := ha3 (by omega)
                    have HRZ4 := hq (HRZ3.o.trans (mkz_1 hc3))
                    obtain ⟨a2, hv3⟩ : ∃ x, x = q2 + b0.length := ⟨_, rfl⟩
                    have HF3 := hq (fun W => HFY.o 61 b0 r2 (q2 : Int) q2 a2 W rfl hv3 (by omega) hac3)
                    obtain ⟨q3, hw3⟩ : ∃ x, x = a2 + n + 2 := ⟨_, rfl⟩
                    have es3 : (a2 : Int) + (n : Int) + 2 = (q3 : Int) := by omega
                    have HD4 : Hq (s.drop q3 = r2) := hq (by rw [hw3, hv3, ← ha1]; congr 1)
                    have hx3 : (st s).extract q2 a2 = st b0 := by rw [hv3, ex_st, ha2]
                    have hp3a : q2 ≤ a2 := by omega
                    have hp3b : a2 + 2 ≤ q3 := by omega
                    have hp3c : q3 ≤ s.length := by omega
                    have HX3 := hq hx3
                    clear hac3 ha1 ha2 ha3 hb3 hv3 hw3 hc3 HRZ3 hx3
                    go_wp2_with fail
                    refine (HSG.o 61 61 rfl _).mono ?_
                    rintro e w6 ⟨rfl, hb5⟩
                    have HB4 := hq (HB3.o.trans (hb5.mono HB3.o.size))
                    have HW4 := hq (HW3.o.grow hb5)
                    clear hb5 HB3 HW3
                    go_wp2_with fail
                    refine (HF3.o _).mono ?_
                    rintro e w9 ⟨rfl, rfl⟩
                    clear HF3
                    cases hc4 : cutL (mrk 62 n) r2 with
                    | none =>
                      have HN := hq (fun w' hw => HP0.o (by rw [HDA.o, HRZ4.o, mkz_no (c := 62) (by simp) hc4]; rfl) w' hw)
                      have HF4 := hq (fun W => HFN.o 62 (q3 : Int) q3 W rfl (by omega) (by rw [HD4.o]; exact hc4))
                      clear HP0 HP1 HRZ4 HDA hc4 HLN HFN HFY
                      go_wp2_with fail
                      refine (HSG.o 62 62 rfl _).mono ?_
                      rintro e w5 ⟨rfl, hb5⟩
                      have HB5 := hq (HB4.o.trans (hb5.mono HB4.o.size))
                      clear hb5
                      go_wp2_with fail
                      refine (HF4.o _).mono ?_
                      rintro e w6 ⟨rfl, rfl⟩
                      clear HF4 HSG
                      go_wp2_with fail
                      exact HN.o _ HB5.o
                    | some tr4 =>
                      obtain ⟨b2, r3⟩ := tr4
                      have hac4 : cutL (mrk 62 n) (s.drop q3) = some (b2, r3) := by rw [HD4.o]; exact hc4
                      obtain ⟨ha1, ha2, ha3⟩ := at_cut hac4
                      rw [mrk_len] at ha1 ha3
                      have hb4 := ha3 (by omega)
                      have HRZ5 := hq (HRZ4.o.trans (mkz_2 hc4))
                      obtain ⟨a3, hv4⟩ : ∃ x, x = q3 + b2.length := ⟨_, rfl⟩
                      have HF4 := hq (fun W => HFY.o 62 b2 r3 (q3 : Int) q3 a3 W rfl hv4 (by omega) hac4)
                      obtain ⟨q4, hw4⟩ : ∃ x, x = a3 + n + 2 := ⟨_, rfl⟩
                      have es4 : (a3 : Int) + (n : Int) + 2 = (q4 : Int) := by omega
                      have HD5 : Hq (s.drop q4 = r3) := hq (by rw [hw4, hv4, ← ha1]; congr 1)
                      have hx4 : (st s).extract q3 a3 = st b2 := by rw [hv4, ex_st, ha2]
                      have hp4a : q3 ≤ a3 := by omega
                      have hp4b : a3 + 2 ≤ q4 := by omega
                      have hp4c : q4 ≤ s.length := by omega
                      have HX4 := hq hx4
                      clear hac4 ha1 ha2 ha3 hb4 hv4 hw4 hc4 HRZ4 hx4
                      go_wp2_with fail
                      refine (HSG.o 62 62 rfl _).mono ?_
                      rintro e w7 ⟨rfl, hb5⟩
                      have HB5 := hq (HB4.o.trans (hb5.mono HB4.o.size))
                      have HW5 := hq (HW4.o.grow hb5)
                      clear hb5 HB4 HW4
                      go_wp2_with fail
                      refine (HF4.o _).mono ?_
                      rintro e w9 ⟨rfl, rfl⟩
                      clear HF4
                      have hx2 := HX2.o
                      have hx3 := HX3.o
                      have hx4 := HX4.o
                      have HRF : Hq (RP = (partsM n f (s.drop q4)).map fun l => (acc2 ++ [⟨true, [], b0, b1, b2⟩]) ++ l) := hq (by rw [HRZ5.o, HD5.o]; exact mkz_3)
                      have hwz := HB5.o.size
                      have H63 : Hq (acc2.length + 1 ≤ maxLen) := hq (by unfold maxLen; omega)
                      have HBY : Hq ((acc2.length + 1) * 72 ≤ 140737488355328) := hq (by omega)
                      have HSZ : Hq (∀ o : Obj, w.heap.size ≤ (w7.alloc o).drew.heap.size) := hq (fun o => Nat.le_trans hwz (by show w7.heap.size ≤ (w7.alloc o).heap.size; rw [World.size_alloc]; omega))
                      have HDR : Hq (∀ o : Obj, Below w.heap.size w (w7.alloc o).drew) := hq (fun o => (HB5.o.alloc hwz o).drew)
                      have HOT := hq (fun k hk => (HW5.o.lt k hk).1)
                      have hq23 : (q2 : Int) ≤ (a2 : Int) := by omega
                      have hq22 : (a2 : Int) ≤ (s.length : Int) := by omega
                      have hq11 : (q1 : Int) ≤ (a1 : Int) := by omega
                      have hq12 : (a1 : Int) ≤ (s.length : Int) := by omega
                      have hq33 : (q3 : Int) ≤ (a3 : Int) := by omega
                      have hq32 : (a3 : Int) ≤ (s.length : Int) := by omega
                      have hqf : (s.drop q4).length < f := by rw [List.length_drop] at hf ⊢; omega
                      have hqa : (acc2 ++ [(⟨true, [], b0, b1, b2⟩ : MPart)]).length ≤ q4 := by rw [List.length_append, List.length_singleton]; omega
                      clear HRZ5 HD2 HD3 HD4 HD5 HX2 HX3 HX4 HFN HFY HSG HP0 HP1 HDA HLN
                      go_upto_region 25 with fail
                      have kw1 : IntKind.i64.wrap ((a1 : Int) + (n : Int)) = (a1 : Int) + (n : Int) := IntWalk.i64_in _ (by omega)
                      have kw2 : IntKind.i64.wrap ((a2 : Int) + (n : Int)) = (a2 : Int) + (n : Int) := IntWalk.i64_in _ (by omega)
                      have kw3 : IntKind.i64.wrap (q2 : Int) = (q2 : Int) := IntWalk.i64_in _ (by omega)
                      have kw4 : IntKind.i64.wrap (q3 : Int) = (q3 : Int) := IntWalk.i64_in _ (by omega)
                      have kz2 : (0 : Int) ≤ (q2 : Int) := Int.natCast_nonneg _
                      have kz3 : (0 : Int) ≤ (q3 : Int) := Int.natCast_nonneg _
                      go_region_held3 (fun _ => True) (exact trivial) ((refine step_part rfl (.tmp 114) (.tmp 135) 41 rfl w.heap.size 53 i0 (.agg #[.bool false, .string ⟨#[]⟩, .string ⟨#[]⟩, .string ⟨#[]⟩, .string ⟨#[]⟩]) 5 72 Tryd.underlying41 hi hz0 hz1 hz2 rfl (by decide) _ _ _ (by simp [Act.eval]) (HW5.o.alloc (.cells #[.bool true, .string (st []), .string (st b0), .string (st b1), .string (st b2)] 53)) ⟨w7.heap.size, 0, none⟩ 1 1 [.bool true, .string (st []), .string (st b0), .string (st b1), .string (st b2)] (by simp [Act.eval]) rfl (cells_of_new w7 [.bool true, .string (st []), .string (st b0), .string (st b1), .string (st b2)] _) (part_one _ _ _ _ _) H63.o HBY.o (HSZ.o _) ?_; intro v' w8 hown8 hgrow8 _; have HW8 : Hq (PRow w8 w.heap.size v' (acc2 ++ [⟨true, [], b0, b1, b2⟩])) := hq (by unfold PRow; rw [partCells_snoc, List.length_append]; exact hown8); have HB8 := hq (Below.grown (HDR.o _) hgrow8 (HSZ.o _) HOT.o); clear hown8 hgrow8))
                      all_goals
                        clear kw1 kw2 kw3 kw4
                        go_wp2_with fail
                        go_roundw
                        case rel => first | exact ⟨q4, f, acc2 ++ [⟨true, [], b0, b1, b2⟩], hp4c, rfl, HW8, HB8, HRF, hqf, hqa⟩ | ((repeat apply Exists.intro); exact ⟨⟨q4, f, acc2 ++ [⟨true, [], b0, b1, b2⟩], hp4c, rfl, HW8, HB8, HRF, hqf, hqa⟩, rfl⟩)
                        case measure => simp [intOf]; omega
      · have hpe' : (pe != 0) = true := bne_iff_ne.2 hpe
        have HN := hq (HP0.o (HD3'.o (fun n hn => by rw [HNR.o, if_neg (fun h => hpe h.1)] at hn; cases hn)) _ HB2.o)
        clear HP0 HP1 HD3' HD4' HNR
        go_wp2_with fail
        exact HN.o
    · have hne7 : (List.take 7 h == [35, 109, 97, 114, 107, 115, 32]) = false := beq_eq_false_iff_ne.2 hh7
      have HN := hq (HP0.o (HD2'.o (.inr hh7)))
      clear HP0 HP1 HD2' HD3' HD4' hh7 ht7
      go_wp2_with fail
      refine (HF.o _).mono ?_
      rintro e w1 ⟨rfl, rfl⟩
      go_wp2_with fail
      exact HN.o _ (Below.refl _ _)
end Go.Proofs.YtekihjffefokjaaDoor
