/-
  WALKS: number.Text, number.Of, over what Itoa answers.
-/
import Derived.Test.YtpgdmkhcdfhhaaaDoorNumComp
import Derived.Test.YtpgdmkhcdfhhaaaDoorNumSplit
import Derived.Lib.AppendIntMem
namespace Go.Proofs.YtpgdmkhcdfhhaaaDoor
open Go.RowKit

/-- Itoa answers this text, in every world grown from this one -/
def Itoas (E : Int) (w : World) : Prop := ∀ W, Below w.heap.size w W → Calls Tryd.prog 42 #[.int .i64 E] W fun e w' => e = .returned (.string (st (Lib.itoa E))) ∧ Below W.heap.size W w'
theorem Itoas.grow {E : Int} {w W : World} (h : Itoas E w) (hb : Below w.heap.size w W) : Itoas E W := fun W' hW => h W' (below_trans hb hW)
theorem itoas_small (i : Nat) (hi : i < 100) (w : World) : Itoas i w := fun W _ => (Tryd.strconv_Itoa_small i hi W).mono (by
  rintro e w' ⟨rfl, rfl⟩
  exact ⟨rfl, Below.refl _ _⟩)
theorem itoas_tab (E : Int) (h0 : -9223372036854775808 ≤ E) (h1 : E ≤ 9223372036854775807) (w : World) (htab : ∀ W, Below w.heap.size w W → Lib.TabIs Tryd.prog W "internal/strconv.uint64pow10" .u64 Lib.pow10Tab) : Itoas E w := fun W hW => (Tryd.strconv_Itoa E h0 h1 W (htab W hW)).mono (by
  rintro e w' ⟨rfl, k, os, rfl⟩
  exact ⟨rfl, Lib.below_grow _ _ (Nat.le_refl _) _ _⟩)

def textM (d : Dec) : Bs :=
  if d.right = true then
    if d = .zero then [48] else (if d.neg = true then [45] else []) ++ d.digits ++ (if d.exp ≠ 0 then 101 :: Lib.itoa d.exp else [])
  else []

set_option maxHeartbeats 1000000 in
set_option maxRecDepth 1000000 in
theorem text_any (neg : Bool) (D : Bs) (E : Int) (w : World) (hD : D.length ≤ 1099511627776) (hE : -9223372036854775808 ≤ E ∧ E ≤ 9223372036854775807) (hI : E ≠ 0 → Itoas E w) (hL : (Lib.itoa E).length ≤ 1000) :
    Calls Tryd.prog 20 #[.agg #[.bool neg, .string (st D), .int .i64 E]] w fun e w' => e = .returned (.string (st (textM ⟨neg, D, E⟩))) ∧ Below w.heap.size w w' := by
  have HBD := hq (@right_bd neg D E)
  generalize hR : textM ⟨neg, D, E⟩ = R
  have HR := hq hR
  clear hR
  have HI := hq hI
  clear hI
  go_enter Tryd.func20, Tryd.ntmps20
  go_wp2_with fail
  refine (right_any neg D E _ hD hE).mono ?_
  rintro e w1 ⟨rfl, hb1⟩
  have hb := (below_alloc w (.cells #[.bool neg, .string (st D), .int .i64 E] 23)).trans (hb1.mono (by rw [World.size_alloc]; omega))
  have hW := (Whole.made w 23 #[.bool neg, .string (st D), .int .i64 E]).grow hb1
  clear hb1
  obtain ⟨c0, c1, c2⟩ := three_cells hW
  by_cases hr : Dec.right ⟨neg, D, E⟩ = true
  · have HR2 := hq (HR.o.symm.trans (if_pos hr))
    simp only at HR2
    have hbd := HBD.o hr
    rw [hr]
    clear HR hr HBD
    have heq := eq_num neg D E
    by_cases hz : Dec.mk neg D E = .zero
    · have HN := hq (HR2.o.trans (if_pos hz))
      rw [decide_eq_true hz] at heq
      clear HR2 hz HI
      go_wp2_with fail
      go_ret
      exact ⟨by rw [HN.o]; rfl, hb⟩
    · have HN := hq (HR2.o.trans (if_neg hz))
      rw [decide_eq_false hz] at heq
      clear HR2 hz
      cases neg with
      | true =>
        by_cases he : E = 0
        · have he2 : (E != 0) = false := by simp [he]
          have HN2 : Hq (R = 45 :: D) := hq (by rw [HN.o]; simp [he])
          clear HN he HI
          go_wp2_with fail
          go_ret
          exact ⟨by rw [HN2.o]; exact congrArg (fun x => Ending.returned (.string x)) (cat_st [45] D), hb⟩
        · have he2 : (E != 0) = true := bne_iff_ne.2 he
          have HN2 : Hq (R = (45 :: D) ++ (101 :: Lib.itoa E)) := hq (by rw [HN.o]; simp [he])
          have hIt := hq ((HI.o he).grow hb)
          clear HN he HI
          have hz2 : (st (Lib.itoa E)).size ≤ 1000 := by rw [st_size]; exact hL
          go_wp2_with fail
          refine (hIt.o _ (Below.refl _ _)).mono ?_
          rintro e w2 ⟨rfl, hb2⟩
          replace hb := below_trans hb hb2
          clear hb2
          go_wp2_with fail
          go_ret
          exact ⟨by rw [HN2.o]; exact congrArg (fun x => Ending.returned (.string x)) (show (st [45] ++ st D) ++ (st [101] ++ st (Lib.itoa E)) = st ((45 :: D) ++ (101 :: Lib.itoa E)) by rw [cat_st, cat_st, cat_st]; rfl), hb⟩
      | false =>
        by_cases he : E = 0
        · have he2 : (E != 0) = false := by simp [he]
          have HN2 : Hq (R = D) := hq (by rw [HN.o]; simp [he])
          clear HN he HI
          go_wp2_with fail
          go_ret
          exact ⟨by rw [HN2.o]; rfl, hb⟩
        · have he2 : (E != 0) = true := bne_iff_ne.2 he
          have HN2 : Hq (R = D ++ (101 :: Lib.itoa E)) := hq (by rw [HN.o]; simp [he])
          have hIt := hq ((HI.o he).grow hb)
          clear HN he HI
          have hz2 : (st (Lib.itoa E)).size ≤ 1000 := by rw [st_size]; exact hL
          go_wp2_with fail
          refine (hIt.o _ (Below.refl _ _)).mono ?_
          rintro e w2 ⟨rfl, hb2⟩
          replace hb := below_trans hb hb2
          clear hb2
          go_wp2_with fail
          go_ret
          exact ⟨by rw [HN2.o]; exact congrArg (fun x => Ending.returned (.string x)) ((congrArg (st D ++ ·) (cat_st [101] _)).trans (cat_st D _)), hb⟩
  · have HR2 := hq (HR.o.symm.trans (if_neg hr))
    have hr2 : Dec.right ⟨neg, D, E⟩ = false := by simpa using hr
    rw [hr2]
    clear HR hr HBD
    go_wp2_with fail
    go_ret
    exact ⟨by rw [HR2.o]; rfl, hb⟩

def OfPost (R : Dec) (w : World) (e : Ending) (w' : World) : Prop := e = .returned R.val ∧ Below w.heap.size w w'
set_option maxHeartbeats 1000000 in
set_option maxRecDepth 1000000 in
theorem of_any (n : Int) (p : Parts) (w : World) (hI : Itoas n w) (hL : (Lib.itoa n).length ≤ 1000) (hp : splitM (Lib.itoa n) = some p) (hp2 : p.whole.length + p.frac.length ≤ 1099511627776) :
    Calls Tryd.prog 22 #[.int .i64 n] w (OfPost (numM p.neg p.whole p.frac p.down []) w) := by
  have HI := hq hI
  have HP := hq hp
  clear hI hp
  have HL : Hq ((st (Lib.itoa n)).size ≤ maxLen) := hq (by rw [st_size]; unfold maxLen; omega)
  go_enter Tryd.func22, Tryd.ntmps22
  go_wp2_with fail
  have ha := below_alloc w (.cells #[.bool false, .string (st []), .int .i64 0] 23)
  refine (HI.o _ ha).mono ?_
  rintro e w1 ⟨rfl, hb1⟩
  have hW := (Whole.made w 23 #[.bool false, .string (st []), .int .i64 0]).grow hb1
  replace hb1 := below_trans ha hb1
  clear ha
  go_wp2_with fail
  refine (split_any _ _ HL.o).mono ?_
  rw [st_list, HP.o]
  rintro e w2 ⟨⟨v, rfl, hv⟩, hb2⟩
  obtain ⟨q, hq, rfl⟩ | ⟨h, _⟩ := hv
  · injection hq with hq
    subst hq
    obtain ⟨neg, whole, frac, down, power⟩ := p
    simp only [Parts.val] at *
    have hb := below_trans hb1 hb2
    replace hW := hW.grow hb2
    obtain ⟨r0, r1, r2⟩ := three_cells hW
    have q0 := hW.free 0
    have q1 := hW.free 1
    have q2 := hW.free 2
    clear hb1 hb2 HP HI HL
    go_wp2_with fail
    refine (number_any neg whole frac down _ [] _ rfl (by simp) hp2).mono ?_
    generalize numM neg whole frac down [] = D at *
    rintro e w3 ⟨rfl, hb3⟩
    obtain ⟨dn, DD, DE⟩ := D
    simp only [Dec.val] at *
    have hW3 := (hW.alloc (.cells #[.bool neg, .string (st whole), .string (st frac), .bool down, .string (st power)] 57)).grow hb3
    have hb4 : Below w.heap.size w w3 := (hb.alloc (by have := hW.lt; omega) _).trans (hb3.mono (by rw [World.size_alloc]; have := hW.lt; omega))
    clear hb3 hb hW r0 r1 r2 q0 q1 q2
    obtain ⟨r0, r1, r2⟩ := three_cells hW3
    have q0 := hW3.free 0
    have q1 := hW3.free 1
    have q2 := hW3.free 2
    go_wp2_with fail
    refine bodyPost_ret (v := (Dec.mk dn DD DE).val) ?_ rfl ?_
    · obtain ⟨z0, z1, z2⟩ := three_cells (by simpa using (((hW3.put 0 (.bool dn)).put 1 (.string (st DD))).put 2 (.int .i64 DE)))
      simp [results, Tryd.results22, go_sem, z0, z1, z2, Dec.val]
    · exact ⟨rfl, ((hb4.setCell (p := ⟨w.heap.size, 0, none⟩) (by simp) _).setCell (p := ⟨w.heap.size, 1, none⟩) (by simp) _).setCell (p := ⟨w.heap.size, 2, none⟩) (by simp) _⟩
  · cases h
end Go.Proofs.YtpgdmkhcdfhhaaaDoor
