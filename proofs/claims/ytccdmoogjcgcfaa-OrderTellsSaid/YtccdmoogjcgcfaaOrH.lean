/-
  WALKS: order.Merge.
-/
import Derived.Test.YtccdmoogjcgcfaaOrG
import Derived.Deep.RegionWith
namespace Go.Proofs.Ytccdmoogjcgcfaa
open Go.RowKit Go.WideMaps Go.Maps Go.Sort

theorem row_base {w : World} {B B' e n : Nat} {v : Value} {xs : List Value} (h : w.ownsRow B e 1 v n xs) (hb : B' ≤ B) : w.ownsRow B' e 1 v n xs := by
  rcases h with ⟨h0, h | ⟨g, cap, cur, h1, h2, h3⟩⟩
  · exact ⟨h0, .inl h⟩
  · exact ⟨h0, .inr ⟨g, cap, cur, h1, Nat.le_trans hb h2, h3⟩⟩
theorem row_len {w : World} {B e n : Nat} {v : Value} {xs : List Value} (h : w.ownsRow B e 1 v n xs) : (n = 0 ∧ v = .slice none 0 0) ∨ ∃ g c, v = .slice (some ⟨g, 0, none⟩) n c := by
  rcases h.2 with ⟨h1, h2⟩ | ⟨g, cap, cur, h1, _⟩
  · exact .inl ⟨h2, h1⟩
  · exact .inr ⟨g, cap, h1⟩
theorem mst_del {w0 : World} {bW bN gS gW gB mN B C D cap k : Nat} {l : List Bs} {F : Nat → Value} {R : Nat → List Nat} {rest done : List Bs} {vM : Value} {W : Nat → Int} {w : World} (h : Mst w0 bW bN gS gW gB mN B C D cap l F R rest done vM W w) (hn : rest.Nodup) (hk : k < rest.length) (hc : rest.length ≤ cap) (hm : cap ≤ maxLen) :
    Calls Try.prog 26 #[.slice (some ⟨gS, 0, none⟩) rest.length cap, .int .i64 (k : Int), .int .i64 ((k : Int) + 1)] w fun e w' => e = .returned (.slice (some ⟨gS, 0, none⟩) (rest.erase rest[k]).length cap) ∧ Mst w0 bW bN gS gW gB mN B C D cap l F R (rest.erase rest[k]) done vM W w' := by
  have hH : Holds encStr w gS 0 rest.toArray := by
    rcases h.by_.2 with ⟨h1, _⟩ | ⟨g, c, cur, h1, _, hg, _, _, _, r4⟩
    · cases h1
    · cases h1
      rw [Nat.mul_one] at r4
      exact holds_of_block hg r4
  have hgl : gS < w.heap.size := (h.by_.lt gS rfl).2
  unfold maxLen at hm
  have h1 := Try.slices_Delete_string gS 0 cap k (k + 1) rest w hH hc (by omega) (by omega) (by omega)
  refine Calls.mono h1 ?_
  rintro e w' ⟨rfl, q, rfl⟩
  obtain ⟨d1, d2⟩ := delete_row (q := q) h.by_ hn hk
  have hl := List.length_erase_of_mem (List.getElem_mem hk)
  have e1 : rest.length - (k + 1 - k) = (rest.erase rest[k]).length := by rw [hl]; omega
  rw [e1] at d1 ⊢
  exact ⟨rfl, h.del d2 d1⟩
theorem mergeGo_len {bef : Bs → Bs → Bool} {rest : List Bs} {k : Nat} (hk : k < rest.length) (h : rest.find? (free bef rest) = some rest[k]) : mergeGo bef rest.length rest = (mergeGo bef (rest.erase rest[k]).length (rest.erase rest[k])).map fun r => rest[k] :: r := by
  have hl := List.length_erase_of_mem (List.getElem_mem hk)
  obtain ⟨m, hm⟩ : ∃ m, rest.length = m + 1 := ⟨rest.length - 1, by omega⟩
  have h1 := mergeGo_some (f := m) h
  rw [hl, hm, h1]
  rfl
def onceAll (lb ll lr l : List Bs) : Bool := onceB lb && (onceB ll && (onceB lr && onceB l))
def MergePost (lb ll lr l : List Bs) (w : World) (e : Ending) (w' : World) : Prop :=
  ((¬ (onceAll lb ll lr l = true ∧ okAll lb ll lr l ∧ ∃ out, mergeAll lb ll lr l = some out) ∧ e = .returned (.tuple #[.slice none 0 0, .bool false])) ∨
    (onceAll lb ll lr l = true ∧ okAll lb ll lr l ∧ ∃ out v, mergeAll lb ll lr l = some out ∧ e = .returned (.tuple #[v, .bool true]) ∧ w'.ownsRow w.heap.size 9 1 v out.length (strCells out))) ∧ Below w.heap.size w w'

set_option maxHeartbeats 8000000 in
set_option maxRecDepth 1000000 in
theorem merge_any (rb rl rr rn : SRow) (w : World) (h0 : rb.ok w) (h1 : rl.ok w) (h2 : rr.ok w) (h3 : rn.ok w) (z0 : Shorts rb.l) (z1 : Shorts rl.l) (z2 : Shorts rr.l) (z3 : Shorts rn.l) :
    Calls Try.prog 11 #[rb.v, rl.v, rr.v, rn.v] w (MergePost rb.l rl.l rr.l rn.l w) := by
  have three : ∀ {p : SRow → Prop}, p rb → p rl → p rr → ∀ r ∈ [rb, rl, rr], p r := fun a b c r hr => by
    simp only [List.mem_cons, List.not_mem_nil, or_false] at hr
    rcases hr with rfl | rfl | rfl
    · exact a
    · exact b
    · exact c
  have four : ∀ {p : SRow → Prop}, p rb → p rl → p rr → p rn → ∀ r ∈ [rb, rl, rr, rn], p r := fun a b c d r hr => by
    simp only [List.mem_cons, List.not_mem_nil, or_false] at hr
    rcases hr with rfl | rfl | rfl | rfl
    · exact a
    · exact b
    · exact c
    · exact d
  have HAL := hq (fun W (hb : Below w.heap.size w W) => oall_any (some ⟨W.heap.size, 0, none⟩) 4 [rb, rl, rr, rn] (W.alloc (.cells #[rb.v, rl.v, rr.v, rn.v] 22)) (Nat.le_refl 4) (by decide) (rows_whole (Whole.made W 22 #[rb.v, rl.v, rr.v, rn.v]) rfl (four (p := fun r => r.ok (W.alloc (.cells #[rb.v, rl.v, rr.v, rn.v] 22))) (h0.grow (below_trans hb (below_alloc _ _))) (h1.grow (below_trans hb (below_alloc _ _))) (h2.grow (below_trans hb (below_alloc _ _))) (h3.grow (below_trans hb (below_alloc _ _))))) (four z0 z1 z2 z3))
  have HPL := hq (fun b W (hw : Whole W b 22 #[rb.v, rl.v, rr.v]) (hb : Below w.heap.size w W) => places_any (some ⟨b, 0, none⟩) 3 [rb, rl, rr] W (Nat.le_refl 3) (by decide) (show 3 * 8 ≤ 140737488351232 by decide) (rows_whole hw rfl (three (p := fun r => r.ok W) (h0.grow hb) (h1.grow hb) (h2.grow hb))) (three z0 z1 z2))
  have HPN := hq (fun b W (hw : Whole W b 22 #[rn.v]) (hb : Below w.heap.size w W) => places_any (some ⟨b, 0, none⟩) 1 [rn] W (Nat.le_refl 1) (by decide) (show 1 * 8 ≤ 140737488351232 by decide) (rows_whole hw rfl (fun r hr => by rw [List.mem_singleton.1 hr]; exact h3.grow hb)) (fun r hr => by rw [List.mem_singleton.1 hr]; exact z3))
  have n0 := (show rb.l.length ≤ 9223372036854775807 from Nat.le_trans h0.le h0.cp)
  have n1 := (show rl.l.length ≤ 9223372036854775807 from Nat.le_trans h1.le h1.cp)
  have n2 := (show rr.l.length ≤ 9223372036854775807 from Nat.le_trans h2.le h2.cp)
  have HWT := hq (fun (hn : rn.l.length ≤ 256) B v ms W (hm : MapsAt B W v ms [rb.l, rl.l, rr.l]) (hb : Below w.heap.size w W) => waiting_any B v ms rb.l rl.l rr.l rn W hm n0 n1 n2 (h3.grow hb) z3 hn)
  have HON : Hq (([rb, rl, rr, rn].all fun r => onceB r.l) = onceAll rb.l rl.l rr.l rn.l) := hq (by simp [onceAll])
  have HNM : Hq (onceAll rb.l rl.l rr.l rn.l = true → rn.l.length ≤ 256 ∧ rn.l.Nodup) := hq (fun h => by
    unfold onceAll at h
    simp only [Bool.and_eq_true] at h
    exact (onceB_iff _).1 h.2.2.2)
  have HSH := hq z3
  have HRD := hq (fun W (hb : Below w.heap.size w W) => (h3.grow hb).rd)
  have hcl := h3.le
  have hcm := h3.cp
  have HP0 : Hq (¬ (onceAll rb.l rl.l rr.l rn.l = true ∧ okAll rb.l rl.l rr.l rn.l ∧ ∃ out, mergeAll rb.l rl.l rr.l rn.l = some out) → ∀ w', Below w.heap.size w w' → MergePost rb.l rl.l rr.l rn.l w (.returned (.tuple #[.slice none 0 0, .bool false])) w') := hq (fun h w' hb => ⟨.inl ⟨h, rfl⟩, hb⟩)
  have HP1 : Hq (onceAll rb.l rl.l rr.l rn.l = true → okAll rb.l rl.l rr.l rn.l → ∀ out v w', mergeAll rb.l rl.l rr.l rn.l = some out → w'.ownsRow w.heap.size 9 1 v out.length (strCells out) → Below w.heap.size w w' → MergePost rb.l rl.l rr.l rn.l w (.returned (.tuple #[v, .bool true])) w') := hq (fun h1 h2 out v w' h3 h4 hb => ⟨.inr ⟨h1, h2, out, v, h3, rfl, h4⟩, hb⟩)
  generalize MergePost rb.l rl.l rr.l rn.l w = PP at *
  clear h0 h1 h2 h3 z0 z1 z2 z3 three four
  unfold PlacesPost at HPL HPN
  simp only [List.map_cons, List.map_nil, List.length_cons, List.length_nil, Nat.zero_add, Nat.reduceAdd] at HAL HPL HPN
  rw [HON.o] at HAL
  clear HON
  obtain ⟨bo, bc, lb⟩ := rb
  obtain ⟨lo, lc, ll⟩ := rl
  obtain ⟨ro, rc, lr⟩ := rr
  obtain ⟨no, nc, l⟩ := rn
  unfold SRow.v at *
  simp only at *
  go_enter Try.func11, Try.ntmps11
  go_wp2_with fail
  refine (HAL.o w (Below.refl _ _)).mono ?_
  rintro e w1 ⟨rfl, hb1⟩
  have HB1 := hq (below_trans (below_alloc w (.cells #[.slice bo lb.length bc, .slice lo ll.length lc, .slice ro lr.length rc, .slice no l.length nc] 22)) hb1)
  clear HAL hb1
  cases hon : onceAll lb ll lr l with
  | false =>
    have HR := hq (HP0.o (fun h => by rw [hon] at h; exact absurd h.1 (by simp)))
    clear HPL HPN HWT HNM HRD HP0 HP1 hon
    go_wp2_with fail
    exact HR.o _ HB1.o
  | true =>
    obtain ⟨hn256, hnod⟩ := HNM.o hon
    have HND := hq hnod
    have HWT2 := hq (HWT.o hn256)
    have HP2 := hq (HP1.o hon)
    have HP3 : Hq (¬ (okAll lb ll lr l ∧ ∃ out, mergeAll lb ll lr l = some out) → ∀ w', Below w.heap.size w w' → PP (.returned (.tuple #[.slice none 0 0, .bool false])) w') := hq (fun h => HP0.o (fun h2 => h h2.2))
    clear HWT HP1 HP0 hnod HNM hon
    go_wp2_with fail
    refine (HPL.o _ _ (Whole.made _ _ _) (below_trans HB1.o (below_alloc _ _))).mono ?_
    rintro e w2 ⟨⟨v2, ms2, rfl, hma⟩, hb2⟩
    have HB2 := hq (below_trans (below_trans HB1.o (below_alloc _ _)) hb2)
    have HWT3 := hq (HWT2.o _ _ _ _ hma HB2.o)
    clear HPL HWT2 HB1 hma hb2
    go_wp2_with fail
    refine HWT3.o.mono ?_
    rintro e w3 ⟨hw3, hb3⟩
    have HB3 := hq (below_trans HB2.o hb3)
    clear HWT3 hb3
    rcases hw3 with ⟨hno, rfl⟩ | ⟨hok, B, gW, gB, F, rfl, hgW, hgB, hst⟩
    · have HR := hq (HP3.o (fun h => hno h.1))
      clear HP2 HP3 HPN HRD hno HND
      go_wp2_with fail
      exact HR.o _ (below_trans HB3.o (below_alloc w3 _))
    · have hb4 : Below w3.heap.size w3 (w3.alloc (.cells #[.slice (some ⟨gW, 0, none⟩) l.length l.length] 37)) := below_alloc w3 _
      have bX : Boxed (w3.alloc (.cells #[.slice (some ⟨gW, 0, none⟩) l.length l.length] 37)) w3.heap.size 37 (.slice (some ⟨gW, 0, none⟩) l.length l.length) := Boxed.new _ _ _
      have HB4 := hq (below_trans HB3.o hb4)
      have HST4 := hq (hst.grow hb4)
      have HWB : Hq (w.heap.size ≤ gW) := hq (Nat.le_trans HB2.o.size hgW)
      have HGT : Hq (okAll lb ll lr l → ¬ (∃ out, mergeAll lb ll lr l = some out) → ∀ w', Below w.heap.size w w' → PP (.returned (.tuple #[.slice none 0 0, .bool false])) w') := hq (fun _ h2 => HP3.o (fun h => h2 h.2))
      have HP4 := hq (HGT.o hok)
      have HP5 := hq (HP2.o hok)
      have HBX := hq bX
      clear HGT HP3 HP2 hst hgW hgB hb4 bX hok
      go_wp2_with fail
      generalize w3.alloc (.cells #[.slice (some ⟨gW, 0, none⟩) l.length l.length] 37) = W4 at *
      generalize w3.heap.size = bW at *
      refine (vals_any no l.length nc W4).mono ?_
      rintro e w5 ⟨rfl, hw5⟩
      have hb5 := below_alloc W4 (.cells #[.slice no l.length nc] 22)
      have HSO := hq (sorted_any W4.heap.size no nc l hcl hcm (by omega) (W4.alloc (.cells #[.slice no l.length nc] 22)) (Boxed.new _ _ _).cell (by rw [World.size_alloc]; omega) (HRD.o _ (below_trans HB4.o hb5)))
      rw [← hw5] at HSO hb5
      clear hw5 HRD
      go_wp2_with fail
      refine HSO.o.mono ?_
      rintro e w6 ⟨v6, rfl, hr6, hb6⟩
      have HB6 := hq (below_trans (below_trans HB4.o hb5) hb6)
      have HST6 := hq (HST4.o.grow (below_trans hb5 hb6))
      have HBX6 := hq (boxed_text HBX.o (by decide) (row := none) ⟨(below_trans hb5 hb6).os, (below_trans hb5 hb6).tape, (below_trans hb5 hb6).output, (below_trans hb5 hb6).size, fun j hj _ => (below_trans hb5 hb6).block j hj⟩ (fun g e => by cases e))
      have HR6 := hq hr6
      have hl6 : Hq (W4.heap.size ≤ w5.heap.size) := hq hb5.size
      have hl6 : Hq (w.heap.size ≤ w5.heap.size) := hq (Nat.le_trans HB4.o.size hb5.size)
      clear HSO HB4 HST4 HBX hb5 hb6 hr6
      go_wp2_with fail
      refine (HPN.o _ _ (Whole.made _ _ _) (below_trans HB6.o (below_alloc _ _))).mono ?_
      rintro e w7 ⟨⟨v7, ms7, rfl, hma⟩, hb7⟩
      obtain ⟨g7, cap7, rfl, hc7, hm7, hcell7⟩ := hma.cell (by simp)
      have hcell8 := hcell7 0 (by simp)
      have hmt := (hma.at_ 0 (by simp)).2
      have hb8 := below_trans (below_alloc w6 _) hb7
      generalize ms7.getD 0 0 = mN at *
      simp only [List.length_cons, List.length_nil, Nat.zero_add, List.getElem_cons_zero] at hmt hc7
      have HB8 := hq (below_trans (below_trans HB6.o hb8) (below_alloc w7 (.cells #[.map (some mN)] 45)))
      have hb9 := below_trans hb8 (below_alloc w7 (.cells #[.map (some mN)] 45))
      have HST8 := hq (HST6.o.grow hb9)
      have HBX8 := hq (boxed_text HBX6.o (by decide) (row := none) ⟨hb9.os, hb9.tape, hb9.output, hb9.size, fun j hj _ => hb9.block j hj⟩ (fun g e => by cases e))
      have HR8 := hq (HR6.o.kept (row := none) ⟨hb9.os, hb9.tape, hb9.output, hb9.size, fun j hj _ => hb9.block j hj⟩ (by cases v6.ownBlock <;> simp))
      have HBN8 := hq (Boxed.new w7 45 (.map (some mN)))
      have HMT8 := hq (hmt.grow (below_alloc w7 (.cells #[.map (some mN)] 45)))
      have HLT8 : Hq (∀ q, v6.ownBlock = some q → w5.heap.size ≤ q ∧ q < (w7.alloc (.cells #[.map (some mN)] 45)).heap.size) := hq (fun q hv => HR8.o.lt q hv)
      clear HPN HB6 HST6 HBX6 HR6 hb7 hb8 hb9 hma hmt hcell7
      go_wp2_with fail
      generalize w7.alloc (.cells #[.map (some mN)] 45) = W8 at *
      generalize w7.heap.size = bN at *
      by_cases hl0 : l.length = 0
      · have : l = [] := List.eq_nil_of_length_eq_zero hl0
        subst this
        have HR := hq (HP5.o [] (.slice none 0 0) W8 rfl (World.ownsRow_nil _ _ _ _) HB8.o)
        clear HP4 HP5 HST8 HBX8 HR8 HBN8 HMT8 HLT8 HND
        go_loopw [15] (fun v wr => v = .slice none 0 0 ∧ wr = W8) (fun _ _ => 0)
        case atStart => exact ⟨rfl, rfl⟩
        case round =>
          obtain ⟨rfl, rfl⟩ := hrel
          go_wp2_with fail
          exact HR.o
      · obtain ⟨gS, cap6, rfl, hS1, hS2⟩ : ∃ gS c, v6 = .slice (some ⟨gS, 0, none⟩) l.length c ∧ l.length ≤ c ∧ c ≤ maxLen := by
          rcases HR8.o.2 with ⟨_, h⟩ | ⟨g, c, cur, h, _, _, h1, h2, _⟩
          · exact absurd h hl0
          · exact ⟨g, c, h, h1, h2⟩
        obtain ⟨hS3, hS4⟩ := HLT8.o gS rfl
        have HM8 : Hq (Mst w bW bN gS gW gB mN B w5.heap.size W8.heap.size cap6 l F (aft l.length (befM lb ll lr l) l.length 0) (sortL l) [] (.slice none 0 0) (fun k => ((fore l.length (befM lb ll lr l) l.length 0 k).length : Int)) W8) := hq
          ⟨HBX8.o, HBN8.o, HMT8.o, HST8.o, by rw [sortL_len]; exact HR8.o, World.ownsRow_nil _ _ _ _, HB8.o, HWB.o, Nat.le_trans hl6.o hS3, HB8.o.size, hS4, Nat.le_refl _⟩
        have HI8 : Hq ((sortL l).Nodup ∧ (∀ x ∈ sortL l, x ∈ l) ∧ Tells lb ll lr l (sortL l) (fun k => ((fore l.length (befM lb ll lr l) l.length 0 k).length : Int)) ∧ mergeAll lb ll lr l = (mergeGo (befN lb ll lr) (sortL l).length (sortL l)).map fun r => [] ++ r) := hq
          ⟨sortL_nodup HND.o, fun x hx => (sortL_perm l).mem_iff.1 hx, tells_first HND.o (sortL_perm l), by rw [sortL_len]; unfold mergeAll; cases mergeGo (befN lb ll lr) l.length (sortL l) <;> rfl⟩
        have hDw : Hq (w.heap.size ≤ W8.heap.size) := hq HB8.o.size
        clear HBX8 HBN8 HMT8 HST8 HR8 HLT8 hS3 hS4 hl6
        generalize w5.heap.size = CC at *
        generalize hD8 : W8.heap.size = DD at *
        clear hD8
        go_loopw [13, 15] (fun by_ mg wr => ∃ (rest done : List Bs) (ob : Option Addr) (cm : Nat) (W : Nat → Int), by_ = .slice (some ⟨gS, 0, none⟩) rest.length cap6 ∧ mg = .slice ob done.length cm ∧ done.length + rest.length = l.length ∧
            Hq (Mst w bW bN gS gW gB mN B CC DD cap6 l F (aft l.length (befM lb ll lr l) l.length 0) rest done (.slice ob done.length cm) W wr) ∧
            Hq (∀ j, -(done.length : Int) ≤ W j ∧ W j ≤ 256) ∧ Hq (rest.Nodup ∧ (∀ x ∈ rest, x ∈ l) ∧ Tells lb ll lr l rest W ∧ mergeAll lb ll lr l = (mergeGo (befN lb ll lr) rest.length rest).map fun r => done ++ r))
          (fun by_ _ _ => match by_ with | .slice _ n _ => n | _ => 0)
        case atStart => exact ⟨sortL l, [], none, 0, _, by rw [sortL_len], rfl, by simp [sortL_len], HM8, hq (fun j => by have := fore_len (n := l.length) (bef := befM lb ll lr l) (J := l.length) (I := 0) j; simp; omega), HI8⟩
        case round =>
          obtain ⟨rest, done, ob, cm, W, rfl, rfl, hlen, hM, hW, hI⟩ := hrel
          clear HM8 HI8 HB8
          by_cases hlt : done.length < l.length
          · have hltz : (done.length : Int) < (l.length : Int) := by omega
            have HIX := hq (indexFunc_any (some ⟨gS, 0, none⟩) cap6 rest bW bN (zeroB l W) wr (by omega) hS2 hM.o.read (fun x hx => by
              obtain ⟨i, hi, h1, h2⟩ := lastIx_mem (hI.o.2.1 x hx)
              have h3 := merge1_any bW bN gW mN l.length i l x (W i) wr hM.o.xw.cell hM.o.xn.cell hM.o.hm (HSH.o x (hI.o.2.1 x hx)) h1 hi (hM.o.st.cellW hi)
              have h4 : zeroB l W x = (W i == 0) := by unfold zeroB; rw [h1]; rfl
              rw [h4]
              exact h3))
            have hmf : ∀ fn first cap w, (Instr.makeFunc fn first cap).run Try.prog w = .ok (.func fn first cap) w := fun _ _ _ _ => rfl
            rcases firstIx_cases (q := free (befN lb ll lr) rest) (fun x hx => zero_free hI.o.2.1 hI.o.2.2.1 hx) with ⟨h1, h2⟩ | ⟨k, hk, h1, h2⟩
            · have hnone : mergeAll lb ll lr l = none := by
                obtain ⟨m, hm⟩ : ∃ m, rest.length = m + 1 := ⟨rest.length - 1, by omega⟩
                rw [hI.o.2.2.2, hm, mergeGo_none (by intro h; rw [h] at hm; simp at hm) h2]
                rfl
              have HR := hq (HP4.o (by rw [hnone]; rintro ⟨out, h⟩; cases h) wr hM.o.bl)
              rw [h1] at HIX
              clear hnone h1 h2 hI hM HP4 HP5 HND
              go_wp2_with fail
              refine HIX.o.mono ?_
              rintro e w9 ⟨rfl, hw9⟩
              rw [hw9]
              clear HIX hw9
              go_wp2_with fail
              exact HR.o
            · rw [h1] at HIX
              have hxl := hI.o.2.1 _ (List.getElem_mem hk)
              have HXM := hq (HSH.o _ hxl)
              obtain ⟨i, hi, hx1, hx2⟩ := lastIx_mem hxl
              have HDEL := hq (mst_del hM.o hI.o.1 hk (by omega) hS2)
              have HMG : Hq (mergeAll lb ll lr l = (mergeGo (befN lb ll lr) (rest.erase rest[k]).length (rest.erase rest[k])).map fun r => (done ++ [rest[k]]) ++ r) := hq (by
                rw [hI.o.2.2.2, mergeGo_len hk h2]
                cases mergeGo (befN lb ll lr) (rest.erase rest[k]).length (rest.erase rest[k]) with
                | none => rfl
                | some r => simp)
              have HTN : Hq (Tells lb ll lr l (rest.erase rest[k]) (decW W (aft l.length (befM lb ll lr l) l.length 0 i) (aft l.length (befM lb ll lr l) l.length 0 i).length)) := hq (by
                have := tells_next HND.o hI.o.1 hI.o.2.2.1 hi (by rw [hx2]; exact List.getElem_mem hk)
                rw [hx2] at this
                exact this)
              have HNR : Hq ((rest.erase rest[k]).Nodup ∧ ∀ x ∈ rest.erase rest[k], x ∈ l) := hq ⟨hI.o.1.erase _, fun x hx => hI.o.2.1 x (List.mem_of_mem_erase hx)⟩
              have hel := List.length_erase_of_mem (List.getElem_mem hk)
              have hck := (hM.o.read k hk)
              obtain ⟨b0, f0, hb0, hcell⟩ := hck
              have hb1 := congrArg Addr.block (Option.some.inj hb0)
              have hf1 := congrArg Addr.off (Option.some.inj hb0)
              simp only at hb1 hf1
              subst hb1 hf1
              rw [Nat.zero_add] at hcell
              have HCL := hq hcell
              have hkz : ¬ (k : Int) < 0 := by omega
              have hkr : (k : Int) < (rest.length : Int) := by omega
              have hrl : rest.length ≤ 256 := by omega
              have hil : (i : Int) < (l.length : Int) := by omega
              have HX1 := hq hx1
              clear h1 h2 hI hM hxl hx1 hx2 hb0 hcell HP4 HP5
              generalize rest.erase rest[k] = rest2 at *
              generalize rest[k] = x at *
              go_wp2_with fail
              refine HIX.o.mono ?_
              rintro e w9 ⟨rfl, hw9⟩
              rw [hw9]
              clear HIX hw9
              have hcell := HCL.o
              go_wp2_with fail
              refine HDEL.o.mono ?_
              rintro e w10 ⟨rfl, hM10⟩
              have HM10 := hq hM10
              have hms := hM10.mr
              have hle10 : DD ≤ w10.heap.size := hM10.l5
              obtain ⟨i0, hi0, hz0, hz1, hz2⟩ := info_parts infoStr
              clear hM10 HDEL hcell HCL
              go_wp2_with (at_builtin; refine wpList_append_own_at _ rfl _ _ 22 rfl DD 9 i0 (.string ⟨#[]⟩) 1 16 Try.underlying22 hi0 hz0 hz1 hz2 rfl (by decide) _ _ _ rfl (hms.alloc _) ⟨w10.heap.size, 0, none⟩ 1 1 [.string (st x)] rfl rfl (cells_of_new _ [.string (st x)] _) (by simp [Value.oneCell']) (by unfold maxLen; omega) (by omega) (by rw [World.size_alloc]; omega) ?_)
              intro v' w11 hown11 hgrow11 _ _
              obtain ⟨g11, c11, rfl⟩ := ownsRow_succ hown11
              have e11 : strCells done ++ [.string (st x)] = strCells (done ++ [x]) := by simp [strCells]
              have e12 : done.length + 1 = (done ++ [x]).length := by simp
              rw [e11, e12] at hown11
              have HM11 := hq ((HM10.o.grow (below_alloc w10 (.cells #[.string (st x)] 9))).app hgrow11 hown11)
              rw [← e12] at HM11
              clear hown11 hgrow11 hms HM10 hle10 e11
              have hcN := HM11.o.xn.cell
              have hlk := look_place0 HM11.o.hm HXM.o
              rw [HX1.o] at hlk
              simp only [Option.getD_some] at hlk
              have hcB := HM11.o.st.cellB hi
              have hF := HM11.o.st.own i hi
              have hRn := aft_nodup l.length (befM lb ll lr l) l.length 0 i
              have hRl : ∀ p (hp : p < (aft l.length (befM lb ll lr l) l.length 0 i).length), (aft l.length (befM lb ll lr l) l.length 0 i)[p] < l.length := fun p hp => aft_lt (List.getElem_mem hp)
              have hRs := aft_len (n := l.length) (bef := befM lb ll lr l) (J := l.length) (I := 0) i
              have hD1 : Hq (∀ p, (fun j => if j = (aft l.length (befM lb ll lr l) l.length 0 i).getD p 0 then decW W (aft l.length (befM lb ll lr l) l.length 0 i) p ((aft l.length (befM lb ll lr l) l.length 0 i).getD p 0) - 1 else decW W (aft l.length (befM lb ll lr l) l.length 0 i) p j) = decW W (aft l.length (befM lb ll lr l) l.length 0 i) (p + 1) ∨ (aft l.length (befM lb ll lr l) l.length 0 i).length ≤ p) := hq (fun p => by
                by_cases hp : p < (aft l.length (befM lb ll lr l) l.length 0 i).length
                · have h1 := decW_step (W := W) hRn hp
                  have h2 : (aft l.length (befM lb ll lr l) l.length 0 i).getD p 0 = (aft l.length (befM lb ll lr l) l.length 0 i)[p] := by simp [List.getD, hp]
                  rw [h2]
                  exact .inl h1
                · exact .inr (by omega))
              have HM12 : Hq (Mst w bW bN gS gW gB mN B CC DD cap6 l F (aft l.length (befM lb ll lr l) l.length 0) rest2 (done ++ [x]) (.slice (some ⟨g11, 0, none⟩) (done.length + 1) c11) (decW W (aft l.length (befM lb ll lr l) l.length 0 i) 0) w11) := hq (by rw [decW_0]; exact HM11.o)
              have HRL := hq hRl
              clear hRl hRn HM11
              generalize hAF0 : aft l.length (befM lb ll lr l) l.length 0 = AF at *
              have hAF := hq hAF0
              clear hAF0
              obtain ⟨oF, cF, hFi⟩ : ∃ oF cF, F i = .slice oF (AF i).length cF := by
                rcases row_len hF with ⟨h1, h2⟩ | ⟨g, c, h2⟩
                · exact ⟨none, 0, by rw [h2, h1]⟩
                · exact ⟨_, _, h2⟩
              rw [hFi] at hcB
              have HFI := hq hFi
              clear hF hFi
              go_wp2_with fail
              clear hcB hlk hcN
              go_loopw [78] (fun iv wr2 => ∃ p : Nat, p ≤ (AF i).length ∧ iv = .int .i64 (p : Int) ∧ Hq (Mst w bW bN gS gW gB mN B CC DD cap6 l F AF rest2 (done ++ [x]) (.slice (some ⟨g11, 0, none⟩) (done.length + 1) c11) (decW W (AF i) p) wr2)) (fun iv _ => (AF i).length - (intOf iv).toNat)
              case atStart => exact ⟨0, Nat.zero_le _, rfl, HM12⟩
              case round =>
                obtain ⟨p, hp, rfl, hM2⟩ := hrel
                clear HM12
                by_cases hpl : p < (AF i).length
                · have hpz : (p : Int) < ((AF i).length : Int) := by omega
                  have hjl := HRL.o p hpl
                  have hrow := hM2.o.st.own i hi
                  rw [HFI.o] at hrow
                  obtain ⟨gF, rfl⟩ : ∃ gF, oF = some ⟨gF, 0, none⟩ := by
                    rcases row_len hrow with ⟨h1, _⟩ | ⟨g, c, h2⟩
                    · omega
                    · injection h2 with h3
                      exact ⟨g, h3⟩
                  have hcp := hrow.cells (g := gF) rfl p (.int .i64 ((AF i)[p] : Nat)) (by rw [List.getElem?_map, List.getElem?_eq_getElem hpl]; rfl)
                  rw [Go.WideShapes.add_plain, Nat.zero_add] at hcp
                  have hgd : (AF i).getD p 0 = (AF i)[p] := by simp [List.getD, hpl]
                  have HST := hq ((hD1.o p).resolve_right (by omega))
                  rw [hgd] at HST
                  have hwb := hW.o (AF i)[p]
                  have hwd : -300 ≤ decW W (AF i) p (AF i)[p] ∧ decW W (AF i) p (AF i)[p] ≤ 300 := by
                    unfold decW
                    split <;> omega
                  clear hwb hrow hgd
                  have hcW := hM2.o.xw.cell
                  have hcj := hM2.o.st.cellW hjl
                  have hfr := hM2.o.st.hw.free (AF i)[p]
                  have HMP := hq (hM2.o.put (AF i)[p] (decW W (AF i) p (AF i)[p] - 1))
                  rw [HST.o] at HMP
                  generalize (AF i)[p] = j at *
                  generalize decW W (AF i) p j = z at *
                  have hjz : (j : Int) < (l.length : Int) := by omega
                  clear HST hM2 hD1 HRL
                  go_wp2_with fail
                  go_round
                  case rel => exact ⟨p + 1, hpl, rfl, HMP⟩
                  case measure => simp [intOf]; omega
                · have hpz : ¬ (p : Int) < ((AF i).length : Int) := by omega
                  have h0 : p = (AF i).length := by omega
                  subst h0
                  go_wp2_with fail
                  go_round
                  case rel =>
                    have e5 : (done ++ [x]).length = done.length + 1 := by simp
                    refine ⟨rest2, done ++ [x], some ⟨g11, 0, none⟩, c11, decW W (AF i) (AF i).length, by rw [hel], by rw [e5], by omega, by rw [e5, hAF.o]; exact hM2, hq (fun j => ?_), hq ⟨HNR.o.1, HNR.o.2, HTN.o, HMG.o⟩⟩
                    have h6 := hW.o j
                    rw [e5]
                    unfold decW
                    split <;> omega
                  case measure => simp; omega
          · have h0 : rest = [] := List.eq_nil_of_length_eq_zero (by omega)
            subst h0
            have hltz : ¬ (done.length : Int) < (l.length : Int) := by omega
            have HR := hq (HP5.o done (.slice ob done.length cm) wr (by rw [hI.o.2.2.2]; simp [mergeGo_nil]) (row_base hM.o.mr hDw.o) hM.o.bl)
            clear HP4 HP5 hI hM hW HND HSH
            go_wp2_with fail
            exact HR.o
end Go.Proofs.Ytccdmoogjcgcfaa
