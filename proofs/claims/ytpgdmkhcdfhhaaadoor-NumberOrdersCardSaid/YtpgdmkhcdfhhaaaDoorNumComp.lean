/-
  WALKS: number.sign, rank, size, Compare.
-/
import Derived.Test.YtpgdmkhcdfhhaaaDoorNumRight
import Derived.Deep.RegionHeld3
namespace Go.Proofs.YtpgdmkhcdfhhaaaDoor
open Go.RowKit

/-- -1, 0 or 1 -/
def Dec.sign (d : Dec) : Int := if d = .zero then 0 else if d.neg = true then -1 else 1
/-- two that are right, without their signs -/
def sizeM (a b : Dec) : Int :=
  if (a.digits.length : Int) + a.exp < b.digits.length + b.exp then -1
  else if (b.digits.length : Int) + b.exp < a.digits.length + a.exp then 1
  else Lib.compareBytes a.digits b.digits
def rankM (b : Bool) : Int := if b then 1 else 0
def compareM (a b : Dec) : Int :=
  if (a.right && b.right) = true then
    if a.sign = b.sign then a.sign * sizeM a b else if a.sign < b.sign then -1 else 1
  else rankM a.right - rankM b.right

theorem Dec.sign_bd (d : Dec) : -1 ≤ d.sign ∧ d.sign ≤ 1 := by
  unfold Dec.sign
  split
  · omega
  · split <;> omega

theorem compareBytes_bd : ∀ a b : Bs, -1 ≤ Lib.compareBytes a b ∧ Lib.compareBytes a b ≤ 1 := by
  intro a
  induction a with
  | nil => intro b; cases b <;> simp [Lib.compareBytes]
  | cons x a ih =>
    intro b
    cases b with
    | nil => simp [Lib.compareBytes]
    | cons y b =>
      unfold Lib.compareBytes
      have := ih b
      split
      · omega
      · split <;> omega
theorem sizeM_bd (a b : Dec) : -1 ≤ sizeM a b ∧ sizeM a b ≤ 1 := by
  unfold sizeM
  split
  · omega
  · split
    · omega
    · exact compareBytes_bd _ _
theorem mul_bd {a b : Int} (ha : -1 ≤ a ∧ a ≤ 1) (hb : -1 ≤ b ∧ b ≤ 1) : -1 ≤ a * b ∧ a * b ≤ 1 := by
  have : a = -1 ∨ a = 0 ∨ a = 1 := by omega
  rcases this with rfl | rfl | rfl <;> omega

theorem wrap_small {x : Int} (h : -1 ≤ x ∧ x ≤ 1) : IntKind.i64.wrap x = x := by
  have : x = -1 ∨ x = 0 ∨ x = 1 := by omega
  rcases this with rfl | rfl | rfl <;> rfl

theorem rank_any (b : Bool) (w : World) : Calls Tryd.prog 47 #[.bool b] w fun e w' => e = .returned (.int .i64 (rankM b)) ∧ w' = w := by
  go_enter Tryd.func47, Tryd.ntmps47
  cases b with
  | true => go_wp2_with fail; go_ret; exact ⟨rfl, rfl⟩
  | false => go_wp2_with fail; go_ret; exact ⟨rfl, rfl⟩

set_option maxHeartbeats 1000000 in
set_option maxRecDepth 1000000 in
theorem sign_any (neg : Bool) (D : Bs) (E : Int) (w : World) :
    Calls Tryd.prog 48 #[.agg #[.bool neg, .string (st D), .int .i64 E]] w fun e w' => e = .returned (.int .i64 (Dec.sign ⟨neg, D, E⟩)) ∧ Below w.heap.size w w' := by
  generalize hR : Dec.sign ⟨neg, D, E⟩ = R
  have HR := hq hR
  clear hR
  go_enter Tryd.func48, Tryd.ntmps48
  go_upto_region 1 with fail
  have hW := Whole.made w 23 #[.bool neg, .string (st D), .int .i64 E]
  have hb := below_alloc w (.cells #[.bool neg, .string (st D), .int .i64 E] 23)
  generalize hWW : w.alloc (.cells #[.bool neg, .string (st D), .int .i64 E] 23) = W at *
  clear hWW
  obtain ⟨c0, c1, c2⟩ := three_cells hW
  have heq := eq_num neg D E
  generalize hB : decide (Dec.mk neg D E = .zero) = B at heq
  have HB := hq hB
  clear hB
  go_cut [3] (fun c wx => c = .bool B ∧ wx = W)
  case first =>
    go_wp2_with fail
    go_meet
    exact ⟨rfl, rfl⟩
  case rest =>
    obtain ⟨rfl, rfl⟩ := hcut
    clear heq
    rw [← HB.o]
    clear HB
    by_cases hz : Dec.mk neg D E = .zero
    · have HT : Hq (R = 0) := hq (by rw [← HR.o]; unfold Dec.sign; rw [if_pos hz])
      rw [decide_eq_true hz]
      clear HR hz
      go_wp2_with fail
      go_ret
      exact ⟨by rw [HT.o]; rfl, hb⟩
    · rw [decide_eq_false hz]
      have HR2 : Hq (R = if neg = true then -1 else 1) := hq (by rw [← HR.o]; unfold Dec.sign; rw [if_neg hz])
      clear HR hz
      cases neg with
      | true =>
        go_wp2_with fail
        go_ret
        exact ⟨by rw [HR2.o]; rfl, hb⟩
      | false =>
        go_wp2_with fail
        go_ret
        exact ⟨by rw [HR2.o]; rfl, hb⟩

set_option maxHeartbeats 1000000 in
set_option maxRecDepth 1000000 in
theorem size_any (na : Bool) (DA : Bs) (EA : Int) (nb : Bool) (DB : Bs) (EB : Int) (w : World) (hA : DA.length ≤ 1000) (hB : DB.length ≤ 1000) (hEA : -1000000 ≤ EA ∧ EA ≤ 1000000) (hEB : -1000000 ≤ EB ∧ EB ≤ 1000000) :
    Calls Tryd.prog 49 #[.agg #[.bool na, .string (st DA), .int .i64 EA], .agg #[.bool nb, .string (st DB), .int .i64 EB]] w fun e w' => e = .returned (.int .i64 (sizeM ⟨na, DA, EA⟩ ⟨nb, DB, EB⟩)) ∧ Below w.heap.size w w' := by
  obtain ⟨hEA1, hEA2⟩ := hEA
  obtain ⟨hEB1, hEB2⟩ := hEB
  generalize hR : sizeM ⟨na, DA, EA⟩ ⟨nb, DB, EB⟩ = R
  have HR := hq hR
  clear hR
  go_enter Tryd.func49, Tryd.ntmps49
  have hb := (below_alloc w (.cells #[.bool na, .string (st DA), .int .i64 EA] 23)).alloc (by rw [World.size_alloc]; omega) (.cells #[.bool nb, .string (st DB), .int .i64 EB] 23)
  go_upto_region 1 with fail
  have hW := (Whole.made w 23 #[.bool na, .string (st DA), .int .i64 EA]).alloc (.cells #[.bool nb, .string (st DB), .int .i64 EB] 23)
  have hV := Whole.made (w.alloc (.cells #[.bool na, .string (st DA), .int .i64 EA] 23)) 23 #[.bool nb, .string (st DB), .int .i64 EB]
  rw [World.size_alloc] at hV
  generalize hWW : (w.alloc (.cells #[.bool na, .string (st DA), .int .i64 EA] 23)).alloc (.cells #[.bool nb, .string (st DB), .int .i64 EB] 23) = W at *
  clear hWW
  obtain ⟨c0, c1, c2⟩ := three_cells hW
  obtain ⟨d0, d1, d2⟩ := three_cells hV
  go_cut [5, 6] (fun x y wx => x = .int .i64 (DA.length + EA) ∧ y = .int .i64 (DB.length + EB) ∧ Below w.heap.size w wx ∧ Whole wx w.heap.size 23 #[.bool na, .string (st DA), .int .i64 EA] ∧ Whole wx (w.heap.size + 1) 23 #[.bool nb, .string (st DB), .int .i64 EB])
  case first =>
    go_region
    all_goals go_wp2_with fail
    all_goals go_meet
    all_goals exact ⟨rfl, rfl, hb.drew, hW, hV⟩
  case rest =>
    clear hb hW hV c0 c1 c2 d0 d1 d2
    obtain ⟨rfl, rfl, hb, hW, hV⟩ := hcut
    obtain ⟨c0, c1, c2⟩ := three_cells hW
    obtain ⟨d0, d1, d2⟩ := three_cells hV
    by_cases h1 : (DA.length : Int) + EA < DB.length + EB
    · have HN : Hq (R = -1) := hq (by rw [← HR.o]; unfold sizeM; exact if_pos h1)
      clear HR
      go_wp2_with fail
      go_ret
      exact ⟨by rw [HN.o]; rfl, hb⟩
    · by_cases h2 : (DB.length : Int) + EB < DA.length + EA
      · have HN : Hq (R = 1) := hq (by rw [← HR.o]; unfold sizeM; exact (if_neg h1).trans (if_pos h2))
        clear HR
        go_wp2_with fail
        go_ret
        exact ⟨by rw [HN.o]; rfl, hb⟩
      · have HN : Hq (R = Lib.compareBytes DA DB) := hq (by rw [← HR.o]; unfold sizeM; exact (if_neg h1).trans (if_neg h2))
        clear HR
        go_wp2_with fail
        refine (Tryd.strings_Compare _ _ _).mono ?_
        rintro e w1 ⟨rfl, hw1⟩
        obtain rfl := hw1.symm
        go_wp2_with fail
        go_ret
        exact ⟨by rw [HN.o]; rfl, hb⟩

/-- two numbers that lie in blocks g and g + 1, in a world grown from w -/
def Twin (w : World) (na : Bool) (DA : Bs) (EA : Int) (nb : Bool) (DB : Bs) (EB : Int) (W : World) : Prop :=
  (Below w.heap.size w W ∧ Whole W w.heap.size 23 #[.bool na, .string (st DA), .int .i64 EA] ∧ Whole W (w.heap.size + 1) 23 #[.bool nb, .string (st DB), .int .i64 EB])
theorem Twin.grow {w : World} {na : Bool} {DA : Bs} {EA : Int} {nb : Bool} {DB : Bs} {EB : Int} {W W' : World} (h : Twin w na DA EA nb DB EB W) (hb : Below W.heap.size W W') : Twin w na DA EA nb DB EB W' :=
  ⟨below_trans h.1 hb, h.2.1.grow hb, h.2.2.grow hb⟩
theorem Twin.drew {w : World} {na : Bool} {DA : Bs} {EA : Int} {nb : Bool} {DB : Bs} {EB : Int} {W : World} (h : Twin w na DA EA nb DB EB W) : Twin w na DA EA nb DB EB W.drew := ⟨h.1.drew, h.2.1, h.2.2⟩
theorem Twin.cells {w : World} {na : Bool} {DA : Bs} {EA : Int} {nb : Bool} {DB : Bs} {EB : Int} {W : World} (h : Twin w na DA EA nb DB EB W) :
    W.cell? ⟨w.heap.size, 0, none⟩ = some (.bool na) ∧ W.cell? ⟨w.heap.size, 1, none⟩ = some (.string (st DA)) ∧ W.cell? ⟨w.heap.size, 2, none⟩ = some (.int .i64 EA) ∧
    W.cell? ⟨w.heap.size + 1, 0, none⟩ = some (.bool nb) ∧ W.cell? ⟨w.heap.size + 1, 1, none⟩ = some (.string (st DB)) ∧ W.cell? ⟨w.heap.size + 1, 2, none⟩ = some (.int .i64 EB) := by
  obtain ⟨c0, c1, c2⟩ := three_cells h.2.1
  obtain ⟨d0, d1, d2⟩ := three_cells h.2.2
  exact ⟨c0, c1, c2, d0, d1, d2⟩

theorem right_bd {n : Bool} {D : Bs} {E : Int} (h : Dec.right ⟨n, D, E⟩ = true) : D.length ≤ 1000 ∧ -1000000 ≤ E ∧ E ≤ 1000000 := by
  unfold Dec.right at h
  split at h
  · rename_i hz
    have h1 := congrArg Dec.digits hz
    have h2 := congrArg Dec.exp hz
    simp only [Dec.zero] at h1 h2
    rw [h1, h2]
    exact ⟨by simp, by omega, by omega⟩
  · split at h
    · cases h
    · rename_i hb
      split at h
      · cases h
      · have := of_decide_eq_true h
        unfold Dec.bad at hb
        exact ⟨by simp only [not_or] at hb; omega, this.1, this.2⟩

set_option maxHeartbeats 1000000 in
set_option maxRecDepth 1000000 in
theorem compare_any (na : Bool) (DA : Bs) (EA : Int) (nb : Bool) (DB : Bs) (EB : Int) (w : World) (hA : DA.length ≤ 1099511627776) (hB : DB.length ≤ 1099511627776) (hEA : -9223372036854775808 ≤ EA ∧ EA ≤ 9223372036854775807) (hEB : -9223372036854775808 ≤ EB ∧ EB ≤ 9223372036854775807) :
    Calls Tryd.prog 26 #[.agg #[.bool na, .string (st DA), .int .i64 EA], .agg #[.bool nb, .string (st DB), .int .i64 EB]] w fun e w' => e = .returned (.int .i64 (compareM ⟨na, DA, EA⟩ ⟨nb, DB, EB⟩)) ∧ Below w.heap.size w w' := by
  have hba := @right_bd na DA EA
  have hbb := @right_bd nb DB EB
  generalize hR : compareM ⟨na, DA, EA⟩ ⟨nb, DB, EB⟩ = R
  have HR := hq hR
  clear hR
  have HBA := hq hba
  have HBB := hq hbb
  clear hba hbb
  go_enter Tryd.func26, Tryd.ntmps26
  have hT : Twin w na DA EA nb DB EB ((w.alloc (.cells #[.bool na, .string (st DA), .int .i64 EA] 23)).alloc (.cells #[.bool nb, .string (st DB), .int .i64 EB] 23)) := by
    have hV := Whole.made (w.alloc (.cells #[.bool na, .string (st DA), .int .i64 EA] 23)) 23 #[.bool nb, .string (st DB), .int .i64 EB]
    rw [World.size_alloc] at hV
    exact ⟨(below_alloc w (.cells #[.bool na, .string (st DA), .int .i64 EA] 23)).alloc (by rw [World.size_alloc]; omega) (.cells #[.bool nb, .string (st DB), .int .i64 EB] 23), (Whole.made w 23 #[.bool na, .string (st DA), .int .i64 EA]).alloc (.cells #[.bool nb, .string (st DB), .int .i64 EB] 23), hV⟩
  go_wp2_with fail
  refine (right_any na DA EA _ hA hEA).mono ?_
  rintro e w1 ⟨rfl, hb1⟩
  replace hT := hT.grow hb1
  clear hb1
  obtain ⟨c0, c1, c2, d0, d1, d2⟩ := hT.cells
  by_cases h1 : Dec.right ⟨na, DA, EA⟩ = true
  · rw [h1]
    go_wp2_with fail
    refine (right_any nb DB EB _ hB hEB).mono ?_
    rintro e w1 ⟨rfl, hb1⟩
    replace hT := hT.grow hb1
    clear hb1
    clear c0 c1 c2 d0 d1 d2
    obtain ⟨c0, c1, c2, d0, d1, d2⟩ := hT.cells
    by_cases h2 : Dec.right ⟨nb, DB, EB⟩ = true
    · rw [h2]
      obtain ⟨hA2, hEA2⟩ := HBA.o h1
      obtain ⟨hB2, hEB2⟩ := HBB.o h2
      have HR2 : Hq (R = if Dec.sign ⟨na, DA, EA⟩ = Dec.sign ⟨nb, DB, EB⟩ then Dec.sign ⟨na, DA, EA⟩ * sizeM ⟨na, DA, EA⟩ ⟨nb, DB, EB⟩ else if Dec.sign ⟨na, DA, EA⟩ < Dec.sign ⟨nb, DB, EB⟩ then -1 else 1) := hq (by rw [← HR.o]; unfold compareM; exact if_pos (by rw [h1, h2]; rfl))
      clear HR h1 h2 HBA HBB
      have hsz := size_any na DA EA nb DB EB
      have hs1 := Dec.sign_bd ⟨na, DA, EA⟩
      have hs2 := Dec.sign_bd ⟨nb, DB, EB⟩
      have hs3 := sizeM_bd ⟨na, DA, EA⟩ ⟨nb, DB, EB⟩
      generalize ea : Dec.sign ⟨na, DA, EA⟩ = SA at *
      generalize eb : Dec.sign ⟨nb, DB, EB⟩ = SB at *
      generalize sizeM ⟨na, DA, EA⟩ ⟨nb, DB, EB⟩ = SZ at *
      have HSZ := hq hsz
      clear hsz
      go_wp2_with fail
      clear c0 c1 c2 d0 d1 d2
      go_region_held3 (fun W => Twin w na DA EA nb DB EB W ∧ W.cell? ⟨w.heap.size, 0, none⟩ = some (.bool na) ∧ W.cell? ⟨w.heap.size, 1, none⟩ = some (.string (st DA)) ∧ W.cell? ⟨w.heap.size, 2, none⟩ = some (.int .i64 EA) ∧ W.cell? ⟨w.heap.size + 1, 0, none⟩ = some (.bool nb) ∧ W.cell? ⟨w.heap.size + 1, 1, none⟩ = some (.string (st DB)) ∧ W.cell? ⟨w.heap.size + 1, 2, none⟩ = some (.int .i64 EB)) (first | exact ⟨hT.drew, hT.drew.cells⟩ | exact ⟨hT2, hT2.cells⟩) (first | (go_at_call 48; refine (sign_any _ _ _ _).mono ?_; simp only [ea, eb]; rintro e w2 ⟨rfl, hb2⟩; have hT2 : Twin w na DA EA nb DB EB w2 := Twin.grow (And.left (by assumption)) hb2) | (go_at_call 49; refine (HSZ.o _ hA2 hB2 hEA2 hEB2).mono ?_; rintro e w2 ⟨rfl, hb2⟩; have hT2 : Twin w na DA EA nb DB EB w2 := Twin.grow (And.left (by assumption)) hb2))
      obtain ⟨c0, c1, c2, d0, d1, d2⟩ := hT2.cells
      replace hT := hT2
      by_cases he : SA = SB
      · subst he
        have HN := hq (HR2.o.trans (if_pos rfl))
        have hmul : -1 ≤ SA * SZ ∧ SA * SZ ≤ 1 := mul_bd hs1 hs3
        have he3 : (SA != SA) = false := by simp
        clear HR2
        go_wp2_with fail
        clear c0 c1 c2 d0 d1 d2
        go_region_held3 (fun W => Twin w na DA EA nb DB EB W ∧ W.cell? ⟨w.heap.size, 0, none⟩ = some (.bool na) ∧ W.cell? ⟨w.heap.size, 1, none⟩ = some (.string (st DA)) ∧ W.cell? ⟨w.heap.size, 2, none⟩ = some (.int .i64 EA) ∧ W.cell? ⟨w.heap.size + 1, 0, none⟩ = some (.bool nb) ∧ W.cell? ⟨w.heap.size + 1, 1, none⟩ = some (.string (st DB)) ∧ W.cell? ⟨w.heap.size + 1, 2, none⟩ = some (.int .i64 EB)) (first | exact ⟨hT.drew, hT.drew.cells⟩ | exact ⟨hT2, hT2.cells⟩) (first | (go_at_call 48; refine (sign_any _ _ _ _).mono ?_; simp only [ea]; rintro e w2 ⟨rfl, hb2⟩; have hT2 : Twin w na DA EA nb DB EB w2 := Twin.grow (And.left (by assumption)) hb2) | (go_at_call 49; refine (HSZ.o _ hA2 hB2 hEA2 hEB2).mono ?_; rintro e w2 ⟨rfl, hb2⟩; have hT2 : Twin w na DA EA nb DB EB w2 := Twin.grow (And.left (by assumption)) hb2))
        have hwr : IntKind.i64.wrap (SA * SZ) = SA * SZ := wrap_small hmul
        go_wp2_with fail
        go_ret
        exact ⟨by rw [HN.o]; simp [hwr], hT2.1⟩
      · have HR3 := hq (HR2.o.trans (if_neg he))
        have he3 : (SA != SB) = true := bne_iff_ne.2 he
        clear HR2
        go_wp2_with fail
        clear c0 c1 c2 d0 d1 d2
        go_region_held3 (fun W => Twin w na DA EA nb DB EB W ∧ W.cell? ⟨w.heap.size, 0, none⟩ = some (.bool na) ∧ W.cell? ⟨w.heap.size, 1, none⟩ = some (.string (st DA)) ∧ W.cell? ⟨w.heap.size, 2, none⟩ = some (.int .i64 EA) ∧ W.cell? ⟨w.heap.size + 1, 0, none⟩ = some (.bool nb) ∧ W.cell? ⟨w.heap.size + 1, 1, none⟩ = some (.string (st DB)) ∧ W.cell? ⟨w.heap.size + 1, 2, none⟩ = some (.int .i64 EB)) (first | exact ⟨hT.drew, hT.drew.cells⟩ | exact ⟨hT2, hT2.cells⟩) (first | (go_at_call 48; refine (sign_any _ _ _ _).mono ?_; simp only [ea, eb]; rintro e w2 ⟨rfl, hb2⟩; have hT2 : Twin w na DA EA nb DB EB w2 := Twin.grow (And.left (by assumption)) hb2) | (go_at_call 49; refine (HSZ.o _ hA2 hB2 hEA2 hEB2).mono ?_; rintro e w2 ⟨rfl, hb2⟩; have hT2 : Twin w na DA EA nb DB EB w2 := Twin.grow (And.left (by assumption)) hb2))
        by_cases hl : SA < SB
        · have HN := hq (HR3.o.trans (if_pos hl))
          have hl2 : decide (SA < SB) = true := decide_eq_true hl
          clear HR3
          go_wp2_with fail
          go_ret
          exact ⟨by rw [HN.o]; rfl, hT2.1⟩
        · have HN := hq (HR3.o.trans (if_neg hl))
          have hl2 : decide (SA < SB) = false := decide_eq_false hl
          clear HR3
          go_wp2_with fail
          go_ret
          exact ⟨by rw [HN.o]; rfl, hT2.1⟩
    · have HN : Hq (R = rankM (Dec.right ⟨na, DA, EA⟩) - rankM (Dec.right ⟨nb, DB, EB⟩)) := hq (by rw [← HR.o]; unfold compareM; exact if_neg (by simp_all))
      replace h2 : Dec.right ⟨nb, DB, EB⟩ = false := by simpa using h2
      rw [h2]
      clear HR HBA HBB
      go_wp2_with fail
      clear c0 c1 c2 d0 d1 d2
      go_region_held3 (fun W => Twin w na DA EA nb DB EB W ∧ W.cell? ⟨w.heap.size, 0, none⟩ = some (.bool na) ∧ W.cell? ⟨w.heap.size, 1, none⟩ = some (.string (st DA)) ∧ W.cell? ⟨w.heap.size, 2, none⟩ = some (.int .i64 EA) ∧ W.cell? ⟨w.heap.size + 1, 0, none⟩ = some (.bool nb) ∧ W.cell? ⟨w.heap.size + 1, 1, none⟩ = some (.string (st DB)) ∧ W.cell? ⟨w.heap.size + 1, 2, none⟩ = some (.int .i64 EB)) (first | exact ⟨hT.drew, hT.drew.cells⟩ | exact ⟨hT2, hT2.cells⟩) (first | (go_at_call 18; refine (right_any _ _ _ _ (by assumption) (by assumption)).mono ?_; rintro e w2 ⟨rfl, hb2⟩; have hT2 : Twin w na DA EA nb DB EB w2 := Twin.grow (And.left (by assumption)) hb2) | (go_at_call 47; refine (rank_any _ _).mono ?_; rintro e w2 ⟨rfl, hw2⟩; obtain rfl := hw2.symm; have hT2 : Twin w na DA EA nb DB EB _ := And.left (by assumption)))
      rw [h1, h2] at HN
      go_wp2_with fail
      go_ret
      exact ⟨by rw [HN.o]; rfl, hT2.1⟩
  · have HN : Hq (R = rankM (Dec.right ⟨na, DA, EA⟩) - rankM (Dec.right ⟨nb, DB, EB⟩)) := hq (by rw [← HR.o]; unfold compareM; exact if_neg (by simp_all))
    replace h1 : Dec.right ⟨na, DA, EA⟩ = false := by simpa using h1
    rw [h1]
    clear HR HBA HBB
    go_wp2_with fail
    clear c0 c1 c2 d0 d1 d2
    go_region_held3 (fun W => Twin w na DA EA nb DB EB W ∧ W.cell? ⟨w.heap.size, 0, none⟩ = some (.bool na) ∧ W.cell? ⟨w.heap.size, 1, none⟩ = some (.string (st DA)) ∧ W.cell? ⟨w.heap.size, 2, none⟩ = some (.int .i64 EA) ∧ W.cell? ⟨w.heap.size + 1, 0, none⟩ = some (.bool nb) ∧ W.cell? ⟨w.heap.size + 1, 1, none⟩ = some (.string (st DB)) ∧ W.cell? ⟨w.heap.size + 1, 2, none⟩ = some (.int .i64 EB)) (first | exact ⟨hT.drew, hT.drew.cells⟩ | exact ⟨hT2, hT2.cells⟩) (first | (go_at_call 18; refine (right_any _ _ _ _ (by assumption) (by assumption)).mono ?_; rintro e w2 ⟨rfl, hb2⟩; have hT2 : Twin w na DA EA nb DB EB w2 := Twin.grow (And.left (by assumption)) hb2) | (go_at_call 47; refine (rank_any _ _).mono ?_; rintro e w2 ⟨rfl, hw2⟩; obtain rfl := hw2.symm; have hT2 : Twin w na DA EA nb DB EB _ := And.left (by assumption)))
    rw [h1] at HN
    generalize Dec.right ⟨nb, DB, EB⟩ = rb at *
    go_wp2_with fail
    go_ret
    exact ⟨by rw [HN.o]; cases rb <;> rfl, hT2.1⟩
end Go.Proofs.YtpgdmkhcdfhhaaaDoor
