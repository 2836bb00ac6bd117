/-
  WALKS: the document's Text and Parse of paths.
-/
import Derived.Test.YtmadgdafgkleiaaGreatDoorRowU8
namespace Go.Proofs.YtmadgdafgkleiaaGreatDoor
open Go.RowKit
theorem pesc_snoc (x : Bs) (b : UInt8) : pesc (x ++ [b]) = pesc x ++ (if b = 126 then [126, 48] else if b = 47 then [126, 49] else [b]) := by rw [pesc_app, pesc_one]
theorem pesc_take {x : Bs} {k : Nat} (h : k < x.length) : pesc (x.take (k + 1)) = pesc (x.take k) ++ (if x[k] = 126 then [126, 48] else if x[k] = 47 then [126, 49] else [x[k]]) := by
  rw [List.take_succ_eq_append_getElem h, pesc_snoc]
theorem bytes_none {w : World} {base : Nat} {v : Value} (h : RowIs w base v []) : (convert 40 9 v).run Tryz.prog w = .ok (.string ⟨#[]⟩) w := by
  rcases h.2 with ⟨rfl, _⟩ | ⟨g, cap, cur, rfl, _⟩
  · rw [run_convert_bytes_string w _ _ 5 none 0 0 Tryz.underlying40 Tryz.underlying5 Tryz.underlying9]
    simp [Conv.bytesToString]
    rfl
  · exact run_convert_bytes_back w _ _ 5 ⟨g, 0, none⟩ cap [] Tryz.underlying40 Tryz.underlying5 Tryz.underlying9 (fun j hj => absurd hj (Nat.not_lt_zero _))
theorem ptext_lenT {l : List Bs} (h : ShtT l) {i : Nat} (hi : i ≤ 63) : (ptext (l.take i)).length ≤ 17179869184 := by
  have h1 := ptext_len 134217728 (l.take i) (fun x hx => h x (List.mem_of_mem_take hx))
  have h0 : (l.take i).length ≤ 63 := by rw [List.length_take]; exact Nat.le_trans (Nat.min_le_left _ _) hi
  have h2 : (l.take i).length * (2 * 134217728 + 1) ≤ 63 * (2 * 134217728 + 1) := Nat.mul_le_mul_right _ h0
  have h3 : 63 * (2 * 134217728 + 1) ≤ 17179869184 := by decide
  exact Nat.le_trans h1 (Nat.le_trans h2 h3)
theorem u8_ofB (b : UInt8) : Lib.byteCells [b] = [.int .u8 (b.toNat : Int)] := rfl
set_option maxHeartbeats 4000000 in
set_option maxRecDepth 1000000 in
theorem rtext7_any (p : SRow) (W : World) (hp : p.ok W) (hm : ShtT p.l) : Calls Tryz.prog 32 #[p.v] W (PtxPost (ptxM p.l) W) := by
  obtain ⟨i0, hi, hz0, hz1, hz2⟩ := info_partsV infoU8
  have HRI := hq (rright7_any p W hp hm.room)
  obtain ⟨o, cap, l⟩ := p
  have HPO := hq hp
  have hpc := hp.le
  have hpm := hp.cp
  have HSH := hq hm
  unfold maxLen at hpm
  have HP : Hq (∀ x W', ptxM l = x → Below W.heap.size W W' → PtxPost (ptxM l) W (.returned (.tuple #[.string (st x.1), .int .i64 x.2])) W') := hq (fun x W' h1 h2 => ⟨by rw [h1], h2⟩)
  have HD : Hq (ptxM l = if pgoodB l = true then (ptext l, 0) else ([], 1)) := hq rfl
  have HG : Hq (pgoodB l = true → l.length ≤ 64) := hq (fun h => by unfold pgoodB at h; rw [Bool.and_eq_true] at h; exact of_decide_eq_true h.1)
  simp only at hpc hpm ⊢
  generalize PtxPost (ptxM l) W = PP at *
  unfold SRow.v BoolPost at HRI
  unfold SRow.v
  simp only at HRI ⊢
  clear hp hm
  go_enter Tryz.func32, Tryz.ntmps32
  go_wp2_with fail
  refine HRI.o.mono ?_
  rintro e W1 ⟨rfl, hb1⟩
  have HB1 := hq hb1
  clear hb1 HRI
  generalize pgoodB l = good at *
  cases good with
  | false =>
    have HV := hq (HP.o ([], 1) W1 (by rw [HD.o]; rfl) HB1.o)
    clear HP HD HG
    go_wp2_with fail
    first | exact HV.o | (go_ret; exact HV.o)
  | true =>
    have h64 := HG.o rfl
    have HD2 : Hq (ptxM l = (ptext l, 0)) := hq (by rw [HD.o]; rfl)
    clear HD HG
    go_wp2_with fail
    go_loopg [5, 6, 7, 8] l.length (fun gk v u _ _ wr => ∃ i : Nat, i + gk ≤ l.length ∧ l.length ≤ i + gk ∧ u = .int .i64 (i : Int) ∧ Hq (RowIs wr W.heap.size v (ptext (l.take i))) ∧ Hq (Below W.heap.size W wr))
    case atStart => exact ⟨0, by omega, by omega, rfl, hq (World.ownsRow_nil _ _ _ _), HB1⟩
    case round =>
      clear HB1
      obtain ⟨i, hi1, hi2, rfl, hrow, hb⟩ := hrel
      by_cases hil : i < l.length
      · have hiz : (i : Int) < (l.length : Int) := by omega
        have HLN := hq (ptext_lenT (l := l) (i := i) HSH.o (by omega))
        have HTK := hq (@ptext_take l i hil)
        have hxl := HSH.o l[i] (List.getElem_mem hil)
        have HCE := hq (fun WW (hb : Below W.heap.size W WW) => strs_at HPO.o.rd hb hil)
        simp only at HCE
        have HLB : Hq ((ptext (l.take i)).length ≤ 17179869184) := HLN
        have hlb := HLB.o
        have HSZ := hq hb.o.size
        generalize l[i] = x at *
        generalize ptext (l.take i) = L at *
        clear HLN HLB
        have HR1 : Hq (L.length + 1 ≤ maxLen) := hq (by unfold maxLen; omega)
        have HR2 : Hq ((L.length + 1) * 1 ≤ 140737488355328) := hq (by omega)
        have HOT := hq (row_other hrow.o)
        go_wp2_with (at_builtin; refine wpList_append_own _ rfl _ _ 40 rfl W.heap.size 5 i0 (.int .u8 0) 1 1 Tryz.underlying40 hi hz0 hz1 hz2 rfl (by decide) _ _ _ rfl (hrow.o.alloc _) ⟨wr.heap.size, 0, none⟩ 1 1 [.int .u8 47] rfl rfl (cells_new _ [.int .u8 47] _) (u8_one ⟨[47], rfl⟩) HR1.o HR2.o (by rw [World.size_alloc]; exact Nat.le_trans HSZ.o (Nat.le_succ _)) ?_)
        intro v' w2 hown' hgrow _
        have hrow2 : RowIs w2 W.heap.size v' (L ++ [47]) := rel_app hown' rfl rfl rfl
        have hb2 : Below W.heap.size W w2 := (hb.o.alloc HSZ.o _).grown hgrow (by rw [World.size_alloc]; exact Nat.le_trans HSZ.o (Nat.le_succ _)) HOT.o
        have HROW2 := hq (show RowIs w2 W.heap.size v' (L ++ [47] ++ pesc (x.take 0)) from by rw [List.take_zero, pesc_nil, List.append_nil]; exact hrow2)
        have HB2 := hq hb2
        clear hown' hgrow hrow2 hb2 HR1 HR2 HOT HSZ hrow hb
        have HLE : Hq ((L ++ [47]).length ≤ 17179869185) := hq (by rw [List.length_append, List.length_singleton]; omega)
        generalize L ++ [47] = M at *
        go_wp2_with fail
        go_loopw [5, 7, 8] (fun v u _ wi => ∃ k : Nat, k ≤ x.length ∧ u = .int .i64 (k : Int) ∧ Hq (RowIs wi W.heap.size v (M ++ pesc (x.take k))) ∧ Hq (Below W.heap.size W wi)) (fun _ u _ _ => x.length - (intOf u).toNat)
        case atStart => exact ⟨0, Nat.zero_le _, rfl, HROW2, HB2⟩
        case round =>
          clear HROW2 HB2
          obtain ⟨k, hk, rfl, hrow, hb⟩ := hrel
          obtain ⟨b, f, rfl, c0⟩ := HCE.o _ hb.o
          by_cases hkx : k < x.length
          · have hkz : (k : Int) < (x.length : Int) := by omega
            have hkb : k < (st x).size := by rw [st_size]; exact hkx
            have hy : (((st x)[k]'hkb).toNat : Int) = (x[k].toNat : Int) := rfl
            have HPE := hq (@pesc_take x k hkx)
            have hpl := pesc_len (x.take k)
            rw [List.length_take, Nat.min_eq_left hk] at hpl
            have HLM : Hq ((M ++ pesc (x.take k)).length ≤ 34359738368) := hq (by rw [List.length_append]; have := HLE.o; omega)
            have HM2 : Hq (M ++ pesc (x.take (k + 1)) = (M ++ pesc (x.take k)) ++ (if x[k] = 126 then [126, 48] else if x[k] = 47 then [126, 49] else [x[k]])) := hq (by rw [HPE.o, List.append_assoc])
            clear HPE hpl
            generalize x[k] = c at *
            generalize M ++ pesc (x.take k) = Q at *
            have HR1 : Hq (∀ m, m ≤ 6 → Q.length + m ≤ maxLen) := hq (fun m hm => by unfold maxLen; have := HLM.o; omega)
            have HR2 : Hq (∀ m, m ≤ 6 → (Q.length + m) * 1 ≤ 140737488355328) := hq (fun m hm => by have := HLM.o; omega)
            have HR3 : Hq (∀ m, m ≤ 6 → Q.length + m ≤ 140737488355328) := hq (fun m hm => by have := HLM.o; omega)
            have HOT := hq (row_other hrow.o)
            have HSZ := hq hb.o.size
            by_cases h126 : c = 126
            · subst h126
              rw [show ((126 : UInt8).toNat : Int) = 126 from rfl] at hy
              have HM3 : Hq (M ++ pesc (x.take (k + 1)) = Q ++ [126, 48]) := hq (by rw [HM2.o, if_pos rfl])
              clear HM2
              go_wp2_with (at_builtin; refine Lib.wpList_append_own_string _ rfl _ _ 40 9 rfl W.heap.size 5 i0 Tryz.underlying40 Tryz.underlying9 hi hz0 hz1 hz2 _ _ _ rfl hrow.o ⟨#[126, 48]⟩ rfl (HR1.o 2 (by omega)) (HR3.o 2 (by omega)) HSZ.o ?_)
              intro v' w2 hown' hgrow _
              have HROW := hq (rel_app (l' := M ++ pesc (x.take (k + 1))) (t := [126, 48]) hown' HM3.o rfl rfl)
              have HB2 := hq (hb.o.grown hgrow HSZ.o HOT.o)
              clear hown' hgrow HM3 hrow hb
              go_wp2_with fail
              go_roundw
              case rel => exact ⟨k + 1, hkx, int_eq (by omega), HROW, HB2⟩
              case measure => simp [intOf]; omega
            · have hc1 : ((c.toNat : Int) == 126) = false := beq_eq_false_iff_ne.2 (fun e => h126 (UInt8.toNat_inj.1 (by show c.toNat = 126; omega)))
              by_cases h47 : c = 47
              · subst h47
                rw [show ((47 : UInt8).toNat : Int) = 47 from rfl] at hy
                have HM3 : Hq (M ++ pesc (x.take (k + 1)) = Q ++ [126, 49]) := hq (by rw [HM2.o, if_neg (by decide), if_pos rfl])
                clear HM2 h126 hc1
                go_wp2_with (at_builtin; refine Lib.wpList_append_own_string _ rfl _ _ 40 9 rfl W.heap.size 5 i0 Tryz.underlying40 Tryz.underlying9 hi hz0 hz1 hz2 _ _ _ rfl hrow.o ⟨#[126, 49]⟩ rfl (HR1.o 2 (by omega)) (HR3.o 2 (by omega)) HSZ.o ?_)
                intro v' w2 hown' hgrow _
                have HROW := hq (rel_app (l' := M ++ pesc (x.take (k + 1))) (t := [126, 49]) hown' HM3.o rfl rfl)
                have HB2 := hq (hb.o.grown hgrow HSZ.o HOT.o)
                clear hown' hgrow HM3 hrow hb
                go_wp2_with fail
                go_roundw
                case rel => exact ⟨k + 1, hkx, int_eq (by omega), HROW, HB2⟩
                case measure => simp [intOf]; omega
              · have hc2 : ((c.toNat : Int) == 47) = false := beq_eq_false_iff_ne.2 (fun e => h47 (UInt8.toNat_inj.1 (by show c.toNat = 47; omega)))
                have HM3 : Hq (M ++ pesc (x.take (k + 1)) = Q ++ [c]) := hq (by rw [HM2.o, if_neg h126, if_neg h47])
                have HCB := hq (u8_ofB c)
                clear HM2 h126 h47
                generalize (c.toNat : Int) = z at *
                go_wp2_with (at_builtin; refine wpList_append_own _ rfl _ _ 40 rfl W.heap.size 5 i0 (.int .u8 0) 1 1 Tryz.underlying40 hi hz0 hz1 hz2 rfl (by decide) _ _ _ rfl (hrow.o.alloc _) ⟨wr.heap.size, 0, none⟩ 1 1 [.int .u8 z] rfl rfl (cells_new _ [.int .u8 z] _) (u8_one ⟨[z], rfl⟩) (HR1.o 1 (by omega)) (HR2.o 1 (by omega)) (by rw [World.size_alloc]; exact Nat.le_trans HSZ.o (Nat.le_succ _)) ?_)
                intro v' w2 hown' hgrow _
                have HROW := hq (rel_app (l' := M ++ pesc (x.take (k + 1))) (t := [c]) hown' HM3.o rfl HCB.o)
                have HB2 := hq ((hb.o.alloc HSZ.o _).grown hgrow (by rw [World.size_alloc]; exact Nat.le_trans HSZ.o (Nat.le_succ _)) HOT.o)
                clear hown' hgrow HM3 hrow hb
                go_wp2_with fail
                go_roundw
                case rel => exact ⟨k + 1, hkx, int_eq (by omega), HROW, HB2⟩
                case measure => simp [intOf]; omega
          · obtain rfl : k = x.length := by omega
            have hkz : ¬ (x.length : Int) < (x.length : Int) := by omega
            have HROW := hq (show RowIs wr W.heap.size _ (ptext (l.take (i + 1))) from by
              have h1 := hrow.o
              rw [List.take_length] at h1
              rw [HTK.o]; exact h1)
            clear hrow
            go_wp2_with fail
            go_roundg (gk - 1)
            case measure => omega
            case rel => exact ⟨i + 1, by omega, by omega, int_eq (by omega), HROW, hb⟩
      · have hiz : ¬ (i : Int) < (l.length : Int) := by omega
        have HV := hq (HP.o (ptext l, 0) wr HD2.o hb.o)
        have hr := hrow.o
        rw [List.take_of_length_le (by omega)] at hr
        by_cases h0 : 0 < (ptext l).length
        · have hcv := bytes_back hr h0
          clear HP HD2 HPO HSH hrow hr hb h0
          go_wp2_with fail
          first | exact HV.o | (go_ret2; exact HV.o)
        · have he : ptext l = [] := List.eq_nil_of_length_eq_zero (by omega)
          rw [he] at hr HV
          have hcv := bytes_none hr
          clear HP HD2 HPO HSH hrow hr hb h0
          go_wp2_with fail
          first | exact HV.o | (go_ret2; exact HV.o)
end Go.Proofs.YtmadgdafgkleiaaGreatDoor

