/-
  WALK: the law ReadScalars.
-/
import Derived.Test.YtnlkokgekjlmmaaGreatDoorRdV
import Derived.Test.YtnlkokgekjlmmaaGreatDoorRdK
namespace Go.Proofs.YtnlkokgekjlmmaaGreatDoor
open Go.RowKit

/-- a text that is read -/
theorem reads_is {s : ByteArray} {ns : List JN} {v : Vl} (hp : jparseM s = .inr ns) (hv : Rv s ns 32 0 v ns.length) (w V : World) (hE : Env w) (hV : Below w.heap.size w V) (hs : s.size ≤ maxLen) :
    Calls Tryz.prog 31 #[.string s] V fun e W' => ∃ y : Vt, e = .returned (.tuple #[y.v, .int .i64 (s.size : Int), .int .i64 0]) ∧ (y.Ok W' ∧ y.m = v) ∧ Below V.heap.size V W' :=
  (readRead_any s V (hE.grow hV) hs).mono fun e W' h => by
    unfold RReadPost at h
    rw [hp] at h
    obtain ⟨y, u, h1, h2, h3, h4, h5⟩ := h
    obtain ⟨rfl, _⟩ := h1.one hv
    exact ⟨y, h2, ⟨h3.ok (by rw [h4]; exact hv.rng (parsed_size hp)), h4⟩, h5⟩
theorem row_two {W : World} {g : Nat} {y : Vt} {m : Vl} (hy : y.Ok W) (hm : y.m = m) (h : Whole W g 25 (vtC [y, y]).toArray) : IsVR (.mk 5 [] [] [m, m]) (.agg #[.int .i64 5, .string ⟨#[]⟩, .slice none 0 0, .slice (some ⟨g, 0, none⟩) 2 2]) W :=
  ⟨.mk 5 [] ⟨none, 0, []⟩ (some ⟨g, 0, none⟩) 2 [y, y], rfl, arr_ok (l := [y, y]) h rfl (by exact (by decide : (2 : Nat) ≤ 1000)) (two_ok hy hy), by rw [Vt.m_mk]; simp only [List.map_cons, List.map_nil, hm]⟩
def RX7 (g8 : Nat) (tx : Bs) (dv : Value) (i : Nat) (v : Value) (_ _ : Nat) (_ : World) : Prop := match i with
  | 0 => v = .int .i64 0
  | 3 => v = .pointer (some ⟨g8, 0, none⟩)
  | 4 => v = .int .i64 3
  | 8 => v = .pointer (some ⟨g8, 1, none⟩)
  | 9 => v = .string (st tx)
  | 10 => v = dv
  | 11 => v = .string (st tx)
  | _ => v = .bool false
def RX14 (t : ByteArray) (va vb : Value) (RW : Array Value) (i : Nat) (v : Value) (_ _ : Nat) (W : World) : Prop := match i with
  | 2 => v = .int .i64 0
  | 6 => v = va
  | 7 => v = .string t
  | 8 => v = .agg #[.int .i64 4, .string t, .slice none 0 0, .slice none 0 0]
  | 12 => v = .int .i64 0
  | 16 => v = vb
  | 17 => v = va
  | 18 => v = va
  | 19 => v = .slice (some ⟨slB v, 0, none⟩) 2 2 ∧ Whole W (slB v) 25 RW
  | 20 => v = .agg #[.int .i64 5, .string ⟨#[]⟩, .slice none 0 0, .slice (some ⟨itB v, 0, none⟩) 2 2] ∧ Whole W (itB v) 25 RW
  | _ => v = .bool true
set_option maxHeartbeats 32000000 in
set_option maxRecDepth 1000000 in
/-- behind the number -/
theorem rscalars_law (s t : ByteArray) (w : World) (hE : Env w) (hs : s.size ≤ 1152921504606846976) (ht : t.size ≤ 1152921504606846976) : Calls Tryz.prog 12 #[.string s, .string t] w (BPost true w) := by
  have HSM : Hq (Calls Tryz.prog 29 #[] w (fun e W' => e = .returned (.bool true) ∧ Below w.heap.size w W')) := hq (small9_any w hE)
  have HFI : Hq (∀ W', Below w.heap.size w W' → BPost true w (.returned (.bool true)) W') := hq (fun W' h => ⟨rfl, h⟩)
  generalize BPost true w = PP at *
  have hwr : wrap64 ((s.size : Int) + (t.size : Int)) = (s.size : Int) + (t.size : Int) := by unfold wrap64; omega
  by_cases hz : 2048 < s.size + t.size
  · have hz1 : (2048 : Int) < (s.size : Int) + (t.size : Int) := by omega
    clear hE hz
    go_enter Tryz.func12, Tryz.ntmps12
    go_wp2_with fail
    refine HSM.o.mono ?_
    rintro e w1 ⟨rfl, hb1⟩
    have HV := hq (HFI.o w1 hb1)
    clear HSM HFI
    go_wp2_with fail
    first | exact HV.o | (go_ret; exact HV.o)
  have hz1 : ¬ (2048 : Int) < (s.size : Int) + (t.size : Int) := by omega
  have hs2 : s.size ≤ 2048 := by omega
  have ht2 : t.size ≤ 2048 := by omega
  clear hz hs ht
  have HPA := hq (fun V => parse_any s V (by omega))
  unfold ParsePost at HPA
  have HQT := hq (fun V (h : Below w.heap.size w V) => quote_any t V (hE.grow h).tab (by omega))
  have HTX : Hq (∀ d : Dec, d.right = true → ∀ V, Below w.heap.size w V → Calls Tryz.prog 43 #[d.val] V fun e w' => e = .returned (.string (st (textM d))) ∧ Below V.heap.size V w') := hq (fun d hr V hV => by
    have hbd := @right_bd d.neg d.digits d.exp hr
    exact text_any d.neg d.digits d.exp V (by omega) (by omega) (fun _ => (hE.its.grow hV) d.exp (by omega) (by omega)) (decDigits_shortV d.exp (by omega) (by omega)))
  have HRN : Hq ((parseM s.data.toList).2 = 0 → ∀ V, Below w.heap.size w V → Calls Tryz.prog 31 #[.string s] V fun e W' => ∃ y : Vt, e = .returned (.tuple #[y.v, .int .i64 (s.size : Int), .int .i64 0]) ∧ (y.Ok W' ∧ y.m = .mk 3 (textM (parseM s.data.toList).1) [] []) ∧ Below V.heap.size V W') := hq (fun h V hV => by
    obtain ⟨ns, h1, h2⟩ := num_read (by omega) h
    exact reads_is h1 h2 w V hE hV (by unfold maxLen; omega))
  have HNR : Hq ((parseM s.data.toList).2 = 0 → (parseM s.data.toList).1.right = true) := hq (fun h => parseM_right (l := s.data.toList) (by rw [← h]))
  have HQR : Hq ((valid t).2 = true → ∀ X : ByteArray, X.data.toList = 32 :: ((quoteM t).1 ++ [10]) → ∀ V, Below w.heap.size w V → Calls Tryz.prog 31 #[.string X] V fun e W' => ∃ y : Vt, e = .returned (.tuple #[y.v, .int .i64 (X.size : Int), .int .i64 0]) ∧ (y.Ok W' ∧ y.m = .mk 4 t.data.toList [] []) ∧ Below V.heap.size V W') := hq (fun h X hX V hV => by
    have hq2 := quote_len t
    have hxz : X.size = (quoteM t).1.length + 2 := by
      have : X.data.toList.length = X.size := Array.length_toList
      rw [hX] at this
      simp only [List.length_cons, List.length_append, List.length_nil] at this
      omega
    have e := st_of t
    obtain ⟨ns, h1, h2⟩ := str_read (T := X) (t := t.data.toList) (by omega) (by rw [e]; exact h) (by rw [e]; exact hX)
    exact reads_is h1 h2 w V hE hV (by unfold maxLen; omega))
  have HQ2 : Hq ((valid t).2 = true → ∀ X : ByteArray, X.data.toList = 91 :: ((quoteM t).1 ++ (44 :: ((quoteM t).1 ++ [93]))) → ∀ V, Below w.heap.size w V → Calls Tryz.prog 31 #[.string X] V fun e W' => ∃ y : Vt, e = .returned (.tuple #[y.v, .int .i64 (X.size : Int), .int .i64 0]) ∧ (y.Ok W' ∧ y.m = .mk 5 [] [] [.mk 4 t.data.toList [] [], .mk 4 t.data.toList [] []]) ∧ Below V.heap.size V W') := hq (fun h X hX V hV => by
    have hq2 := quote_len t
    have hxz : X.size = 2 * (quoteM t).1.length + 3 := by
      have : X.data.toList.length = X.size := Array.length_toList
      rw [hX] at this
      simp only [List.length_cons, List.length_append, List.length_nil] at this
      omega
    have e := st_of t
    obtain ⟨ns, h1, h2⟩ := two_read (T := X) (t := t.data.toList) (by omega) (by rw [e]; exact h) (by rw [e]; exact hX)
    exact reads_is h1 h2 w V hE hV (by unfold maxLen; omega))
  have HOF : Hq (∀ V, Calls Tryz.prog 27 #[.string t] V fun e W' => e = .returned (.agg #[.int .i64 4, .string t, .slice none 0 0, .slice none 0 0]) ∧ Below V.heap.size V W') := hq (fun V => by
    have h := vOf_any t.data.toList V
    rw [st_of] at h
    exact h.mono fun e W' h => ⟨by rw [h.1, leafT_v, st_of], h.2⟩)
  have HOI : Hq (∀ V, IsVR (.mk 4 t.data.toList [] []) (.agg #[.int .i64 4, .string t, .slice none 0 0, .slice none 0 0]) V) := hq (fun V => ⟨leafT 4 t.data.toList, by rw [leafT_v, st_of], leaf_ok 4 _ V (by decide) (by rw [Array.length_toList]; unfold maxLen; show t.size ≤ _; omega), leafT_m _ _⟩)
  have HQZ : Hq ((quoteM t).1.length ≤ 20000) := hq (by have := quote_len t; omega)
  have HQN : Hq ((valid t).2 = false → quoteM t = ([], 2)) := hq (fun h => quoteM_no (by rw [h]; decide))
  have HQY : Hq ((valid t).2 = true → (quoteM t).2 = 0) := hq (fun h => by rw [quoteM_yes h])
  generalize parseM s.data.toList = PR at *
  obtain ⟨⟨neg, D, E⟩, er⟩ := PR
  have HPA' : Hq (∀ V, Calls Tryz.prog 42 #[.string s] V fun e w' => e = .returned (.tuple #[.agg #[.bool neg, .string (st D), .int .i64 E], .int .i64 er]) ∧ Below V.heap.size V w') := hq HPA.o
  clear HPA
  generalize quoteM t = QQ at *
  obtain ⟨q, qe⟩ := QQ
  generalize hvt : (valid t).2 = vt at *
  clear hvt
  simp only at *
  clear hE
  go_enter Tryz.func12, Tryz.ntmps12
  go_wp2_with fail
  refine HSM.o.mono ?_
  rintro e w1 ⟨rfl, hb1⟩
  have HB1 := hq hb1
  clear hb1 HSM
  go_wp2_with fail
  refine (HPA'.o w1).mono ?_
  rintro e w2 ⟨rfl, hb2⟩
  have HB2 := hq (below_trans HB1.o hb2)
  have HB3 := hq (below_trans HB2.o (below_alloc w2 (.cells #[.bool neg, .string (st D), .int .i64 E] 66)))
  have HN3 := hq (Whole.made w2 66 #[.bool neg, .string (st D), .int .i64 E])
  clear hb2 HB1 HB2 HPA'
  go_upto_region 5 with fail
  generalize (w2.alloc (.cells #[.bool neg, .string (st D), .int .i64 E] 66)) = w3 at *
  generalize w2.heap.size = gn at *
  by_cases h0 : er = 0
  · subst h0
    have HRN' := hq (HRN.o rfl)
    have HTX' : Hq (∀ V, Below w.heap.size w V → Calls Tryz.prog 43 #[.agg #[.bool neg, .string (st D), .int .i64 E]] V fun e w' => e = .returned (.string (st (textM ⟨neg, D, E⟩))) ∧ Below V.heap.size V w') := hq (HTX.o ⟨neg, D, E⟩ (HNR.o rfl))
    clear HRN HTX HNR
    generalize textM ⟨neg, D, E⟩ = tx at *
    go_wp2_with fail
    refine (HRN'.o w3 HB3.o).mono ?_
    rintro e w4 ⟨y, rfl, ⟨hyo, hym⟩, hb4⟩
    obtain ⟨yk, yt, ⟨yko, ykc, ykl⟩, yo, yc, yis⟩ := y
    rw [Vt.m_mk] at hym
    obtain ⟨hy1, hy2⟩ : 3 = yk ∧ tx = yt := by
      injection hym with a b _ _
      exact ⟨a.symm, b.symm⟩
    clear hym
    subst hy1
    subst hy2
    rw [Vt.v_mk']
    have hb5 := below_alloc w4 (.cells #[.int .i64 3, .string (st tx), .slice yko ykl.length ykc, .slice yo yis.length yc] 25)
    have HB5 := hq (below_trans (below_trans HB3.o hb4) hb5)
    have HN5 := hq ((HN3.o.grow hb4).grow hb5)
    have HY5 := hq (Whole.made w4 25 #[.int .i64 3, .string (st tx), .slice yko ykl.length ykc, .slice yo yis.length yc])
    clear hb4 hb5 hyo HRN' HB3 HN3
    go_upto_region 7 with fail
    generalize (w4.alloc (.cells #[.int .i64 3, .string (st tx), .slice yko ykl.length ykc, .slice yo yis.length yc] 25)) = w5 at *
    generalize w4.heap.size = g8 at *
    refine go_flow (by kernel_rfl) [(0, 40), (1, 41), (2, 42), (3, 43), (4, 44), (5, 45), (6, 46), (7, 47), (8, 48), (9, 49), (10, 50), (11, 51), (12, 52), (13, 53)] [[0], [1, 0], [2, 1, 0], [3, 2, 1, 0], [4, 3, 2, 1, 0], [5, 2, 1, 0, 4, 3], [6, 2, 1, 0, 5, 4, 3], [7, 6, 2, 1, 0, 5, 4, 3], [8, 7, 6, 2, 1, 0, 5, 4, 3], [9, 8, 7, 6, 2, 1, 0, 5, 4, 3], [10, 7, 6, 2, 1, 0, 5, 4, 3], [11, 10, 7, 6, 2, 1, 0, 5, 4, 3], [12, 7, 6, 2, 1, 0, 5, 4, 3, 9, 8, 11, 10], [13, 7, 6, 2, 1, 0, 5, 4, 3, 12, 9, 8, 11, 10]] [] [] (RX7 g8 tx (.agg #[.bool neg, .string (st D), .int .i64 E])) ?A ?hA (by kernel_rfl) ?hs ?he
    case hA =>
      intro f
      simp only [putS]
      go_simp
      rfl
    case hs =>
      refine Steps.cons rfl ?_ (Steps.cons rfl ?_ (Steps.cons rfl ?_ (Steps.cons rfl ?_ (Steps.cons rfl ?_ (Steps.cons rfl ?_ (Steps.cons rfl ?_ (Steps.cons rfl ?_ (Steps.cons rfl ?_ (Steps.cons rfl ?_ (Steps.cons rfl ?_ (Steps.cons rfl ?_ (Steps.cons rfl ?_ (Steps.cons rfl ?_ Steps.nil)))))))))))))
      · intro f lo hi W2 hb hd K hK
        rw [if_pos (by rfl)]
        go_simp
        exact hK _ _ (Below.refl _ _) (fun V _ _ _ _ => rfl)
      · intro f lo hi W2 hb hd K hK
        have e0 : f 0 = _ := (hd 0 (by decide) (by decide))
        clear hd
        try dsimp only at hK
        generalize f 0 = x0 at e0 hK ⊢
        subst e0
        rw [if_pos (by rfl)]
        go_simp
        exact hK _ _ (Below.refl _ _) (fun V _ _ _ _ => rfl)
      · intro f lo hi W2 hb hd K hK
        have e1 : f 1 = _ := (hd 1 (by decide) (by decide))
        clear hd
        try dsimp only at hK
        generalize f 1 = x1 at e1 hK ⊢
        subst e1
        rw [if_pos (by rfl)]
        go_simp
        exact hK _ _ (Below.refl _ _) (fun V _ _ _ _ => rfl)
      · intro f lo hi W2 hb hd K hK
        have e2 : f 2 = _ := (hd 2 (by decide) (by decide))
        clear hd
        try dsimp only at hK
        generalize f 2 = x2 at e2 hK ⊢
        subst e2
        rw [if_pos (by rfl)]
        go_simp
        exact hK _ _ (Below.refl _ _) (fun V _ _ _ _ => rfl)
      · intro f lo hi W2 hb hd K hK
        have e3 : f 3 = _ := (hd 3 (by decide) (by decide))
        have e2 : f 2 = _ := (hd 2 (by decide) (by decide))
        clear hd
        try dsimp only at hK
        generalize f 3 = x3 at e3 hK ⊢
        generalize f 2 = x2 at e2 hK ⊢
        subst e3
        subst e2
        rw [if_pos (by rfl)]
        obtain ⟨y0, y1, y2, y3⟩ := four_cells (HY5.o.grow hb)
        go_simp
        exact hK _ _ (Below.refl _ _) (fun V _ _ _ _ => rfl)
      · intro f lo hi W2 hb hd K hK
        have e2 : f 2 = _ := (hd 2 (by decide) (by decide))
        have e4 : f 4 = _ := (hd 4 (by decide) (by decide))
        clear hd
        try dsimp only at hK
        generalize f 2 = x2 at e2 hK ⊢
        generalize f 4 = x4 at e4 hK ⊢
        subst e2
        subst e4
        rw [if_pos (by rfl)]
        go_simp
        exact hK _ _ (Below.refl _ _) (fun V _ _ _ _ => rfl)
      · intro f lo hi W2 hb hd K hK
        have e2 : f 2 = _ := (hd 2 (by decide) (by decide))
        have e5 : f 5 = _ := (hd 5 (by decide) (by decide))
        clear hd
        try dsimp only at hK
        generalize f 2 = x2 at e2 hK ⊢
        generalize f 5 = x5 at e5 hK ⊢
        subst e2
        subst e5
        rw [if_pos (by rfl)]
        go_simp
        exact hK _ _ (Below.refl _ _) (fun V _ _ _ _ => rfl)
      · intro f lo hi W2 hb hd K hK
        have e6 : f 6 = _ := (hd 6 (by decide) (by decide))
        clear hd
        try dsimp only at hK
        generalize f 6 = x6 at e6 hK ⊢
        subst e6
        rw [if_pos (by rfl)]
        go_simp
        exact hK _ _ (Below.refl _ _) (fun V _ _ _ _ => rfl)
      · intro f lo hi W2 hb hd K hK
        have e7 : f 7 = _ := (hd 7 (by decide) (by decide))
        clear hd
        try dsimp only at hK
        generalize f 7 = x7 at e7 hK ⊢
        subst e7
        rw [if_pos (by rfl)]
        go_simp
        exact hK _ _ (Below.refl _ _) (fun V _ _ _ _ => rfl)
      · intro f lo hi W2 hb hd K hK
        have e8 : f 8 = _ := (hd 8 (by decide) (by decide))
        have e7 : f 7 = _ := (hd 7 (by decide) (by decide))
        clear hd
        try dsimp only at hK
        generalize f 8 = x8 at e8 hK ⊢
        generalize f 7 = x7 at e7 hK ⊢
        subst e8
        subst e7
        rw [if_pos (by rfl)]
        obtain ⟨y0, y1, y2, y3⟩ := four_cells (HY5.o.grow hb)
        go_simp
        exact hK _ _ (Below.refl _ _) (fun V _ _ _ _ => rfl)
      · intro f lo hi W2 hb hd K hK
        have e7 : f 7 = _ := (hd 7 (by decide) (by decide))
        clear hd
        try dsimp only at hK
        generalize f 7 = x7 at e7 hK ⊢
        subst e7
        rw [if_pos (by rfl)]
        have n0 := (HN5.o.grow hb).at_ 0
        have n1 := (HN5.o.grow hb).at_ 1
        have n2 := (HN5.o.grow hb).at_ 2
        go_simp
        exact hK _ _ (Below.refl _ _) (fun V _ _ _ _ => rfl)
      · intro f lo hi W2 hb hd K hK
        have e10 : f 10 = _ := (hd 10 (by decide) (by decide))
        have e7 : f 7 = _ := (hd 7 (by decide) (by decide))
        clear hd
        try dsimp only at hK
        generalize f 10 = x10 at e10 hK ⊢
        generalize f 7 = x7 at e7 hK ⊢
        subst e10
        subst e7
        rw [if_pos (by rfl)]
        go_simp
        refine (HTX'.o W2 (below_trans HB5.o hb)).mono ?_
        rintro e w2 ⟨rfl, hb2⟩
        exact hK _ _ hb2 (fun V _ _ _ _ => rfl)
      · intro f lo hi W2 hb hd K hK
        have e7 : f 7 = _ := (hd 7 (by decide) (by decide))
        have e9 : f 9 = _ := (hd 9 (by decide) (by decide))
        have e11 : f 11 = _ := (hd 11 (by decide) (by decide))
        clear hd
        try dsimp only at hK
        generalize f 7 = x7 at e7 hK ⊢
        generalize f 9 = x9 at e9 hK ⊢
        generalize f 11 = x11 at e11 hK ⊢
        subst e7
        subst e9
        subst e11
        rw [if_pos (by rfl)]
        go_simp
        exact hK _ _ (Below.refl _ _) (fun V _ _ _ _ => rfl)
      · intro f lo hi W2 hb hd K hK
        have e7 : f 7 = _ := (hd 7 (by decide) (by decide))
        have e12 : f 12 = _ := (hd 12 (by decide) (by decide))
        clear hd
        try dsimp only at hK
        generalize f 7 = x7 at e7 hK ⊢
        generalize f 12 = x12 at e12 hK ⊢
        subst e7
        subst e12
        rw [if_pos (by rfl)]
        go_simp
        exact hK _ _ (Below.refl _ _) (fun V _ _ _ _ => rfl)
    case he =>
      intro f lo hi W2 hb hR hbx hk
      have e13 : f 13 = _ := hR 13 (by decide)
      have HBA := hq (below_trans HB5.o hb)
      clear hR hbx hk hb HN5 HY5 HB5 HTX'
      generalize f 13 = x13 at *
      subst e13
      refine wpOps_done ?_
      go_wp2_with fail
      refine (HQT.o W2 HBA.o).mono ?_
      rintro e w6 ⟨rfl, hb6⟩
      have HB6 := hq (below_trans HBA.o hb6)
      clear hb6 HQT HBA
      cases vt with
      | false =>
        have hqq := HQN.o rfl
        injection hqq with hq1 hq2
        subst hq1 hq2
        have HV := hq (HFI.o w6 HB6.o)
        clear HFI HQN HQY HQR HQ2 HOF HOI HQZ
        go_wp2_with fail
        first | exact HV.o | (go_ret; exact HV.o)
      | true =>
        have hq2 := HQY.o rfl
        subst hq2
        have HQR' := hq (HQR.o rfl)
        have HQ2' := hq (HQ2.o rfl)
        have hql := HQZ.o
        clear HQN HQY HQR HQ2 HQZ
        go_wp2_with fail
        refine (HQR'.o _ (by simp) w6 HB6.o).mono ?_
        rintro e w7 ⟨y, rfl, ⟨hyo, hym⟩, hb7⟩
        obtain ⟨yk, yt, ⟨yko, ykc, ykl⟩, yo, yc, yis⟩ := y
        rw [Vt.v_mk']
        have hb8 := below_alloc w7 (.cells #[.int .i64 yk, .string (st yt), .slice yko ykl.length ykc, .slice yo yis.length yc] 25)
        have HB8 := hq (below_trans (below_trans HB6.o hb7) hb8)
        have HO8 := hq (hyo.grow hb8)
        have HM8 := hq hym
        have HY8 := hq (Whole.made w7 25 #[.int .i64 yk, .string (st yt), .slice yko ykl.length ykc, .slice yo yis.length yc])
        clear hb7 hb8 HQR' hyo hym HB6
        go_upto_region 13 with fail
        generalize (w7.alloc (.cells #[.int .i64 yk, .string (st yt), .slice yko ykl.length ykc, .slice yo yis.length yc] 25)) = w8 at *
        generalize w7.heap.size = g13 at *
        go_wp2_with fail
        refine (HQ2'.o _ (by simp) w8 HB8.o).mono ?_
        rintro e w9 ⟨z, rfl, ⟨hzo, hzm⟩, hb9⟩
        have HZI := hq (show IsVR _ z.v w9 from ⟨z, rfl, hzo, hzm⟩)
        obtain ⟨zk, zt, ⟨zko, zkc, zkl⟩, zo, zc, zis⟩ := z
        rw [Vt.v_mk'] at HZI ⊢
        have hb10 := below_alloc w9 (.cells #[.int .i64 zk, .string (st zt), .slice zko zkl.length zkc, .slice zo zis.length zc] 25)
        have HB10 := hq (below_trans (below_trans HB8.o hb9) hb10)
        have HO10 := hq ((HO8.o.grow hb9).grow hb10)
        have HY10 := hq ((HY8.o.grow hb9).grow hb10)
        have HZI10 := hq (HZI.o.growR hb10)
        have HZ10 := hq (Whole.made w9 25 #[.int .i64 zk, .string (st zt), .slice zko zkl.length zkc, .slice zo zis.length zc])
        clear hb9 hb10 hzo hzm HB8 HO8 HY8 HZI HQ2'
        go_upto_region 14 with fail
        generalize (w9.alloc (.cells #[.int .i64 zk, .string (st zt), .slice zko zkl.length zkc, .slice zo zis.length zc] 25)) = w10 at *
        generalize w9.heap.size = g16 at *
        have HEQ1 := hq (fun V (h : Below w10.heap.size w10 V) => equalVR_any (r := true) (show IsVR (.mk 4 t.data.toList [] []) (.agg #[.int .i64 yk, .string (st yt), .slice yko ykl.length ykc, .slice yo yis.length yc]) V from ⟨.mk yk yt ⟨yko, ykc, ykl⟩ yo yc yis, by rw [Vt.v_mk'], HO10.o.grow h, HM8.o⟩) (HOI.o V) ⟨fun _ => rfl, fun _ => rfl⟩)
        have HEQ2 := hq (fun V (h : Below w10.heap.size w10 V) (g : Nat) (hw : Whole V g 25 #[.int .i64 yk, .string (st yt), .slice yko ykl.length ykc, .slice yo yis.length yc, .int .i64 yk, .string (st yt), .slice yko ykl.length ykc, .slice yo yis.length yc]) => equalVR_any (r := true) (HZI10.o.growR h) (row_two (HO10.o.grow h) HM8.o hw) ⟨fun _ => rfl, fun _ => rfl⟩)
        clear HOI
        refine go_flow (by kernel_rfl) [(0, 81), (1, 82), (2, 83), (3, 84), (4, 85), (5, 86), (6, 87), (7, 88), (8, 89), (9, 90), (10, 91), (11, 92), (12, 93), (13, 94), (14, 95), (15, 96), (16, 97), (17, 98), (18, 99), (19, 100), (20, 101), (21, 102), (22, 103), (23, 4)] [[0], [1, 0], [2, 1, 0], [3, 2, 1, 0], [4, 1, 0, 3, 2], [5, 4, 1, 0, 3, 2], [6, 5, 4, 1, 0, 3, 2], [7, 5, 4, 1, 0, 3, 2], [8, 7, 5, 4, 1, 0, 3, 2], [9, 6, 5, 4, 1, 0, 3, 2, 8, 7], [10, 5, 4, 1, 0, 3, 2, 9, 6, 8, 7], [11, 10, 5, 4, 1, 0, 3, 2, 9, 6, 8, 7], [12, 11, 10, 5, 4, 1, 0, 3, 2, 9, 6, 8, 7], [13, 12, 11, 10, 5, 4, 1, 0, 3, 2, 9, 6, 8, 7], [14, 11, 10, 5, 4, 1, 0, 3, 2, 9, 6, 8, 7, 13, 12], [15, 14, 11, 10, 5, 4, 1, 0, 3, 2, 9, 6, 8, 7, 13, 12], [16, 15, 14, 11, 10, 5, 4, 1, 0, 3, 2, 9, 6, 8, 7, 13, 12], [17, 15, 14, 11, 10, 5, 4, 1, 0, 3, 2, 9, 6, 8, 7, 13, 12], [18, 15, 14, 11, 10, 5, 4, 1, 0, 3, 2, 9, 6, 8, 7, 13, 12], [19, 17, 15, 14, 11, 10, 5, 4, 1, 0, 3, 2, 9, 6, 8, 7, 13, 12, 18], [20, 19, 17, 15, 14, 11, 10, 5, 4, 1, 0, 3, 2, 9, 6, 8, 7, 13, 12, 18], [21, 16, 15, 14, 11, 10, 5, 4, 1, 0, 3, 2, 9, 6, 8, 7, 13, 12, 20, 19, 17, 18], [22, 15, 14, 11, 10, 5, 4, 1, 0, 3, 2, 9, 6, 8, 7, 13, 12, 21, 16, 20, 19, 17, 18], [23, 22, 15, 14, 11, 10, 5, 4, 1, 0, 3, 2, 9, 6, 8, 7, 13, 12, 21, 16, 20, 19, 17, 18]] [] [] (RX14 t (.agg #[.int .i64 yk, .string (st yt), .slice yko ykl.length ykc, .slice yo yis.length yc]) (.agg #[.int .i64 zk, .string (st zt), .slice zko zkl.length zkc, .slice zo zis.length zc]) #[.int .i64 yk, .string (st yt), .slice yko ykl.length ykc, .slice yo yis.length yc, .int .i64 yk, .string (st yt), .slice yko ykl.length ykc, .slice yo yis.length yc]) ?Ax ?hAx (by kernel_rfl) ?hsx ?hex
        case hAx =>
          intro f
          simp only [putS]
          go_simp
          rfl
        case hsx =>
          refine Steps.cons rfl ?_ (Steps.cons rfl ?_ (Steps.cons rfl ?_ (Steps.cons rfl ?_ (Steps.cons rfl ?_ (Steps.cons rfl ?_ (Steps.cons rfl ?_ (Steps.cons rfl ?_ (Steps.cons rfl ?_ (Steps.cons rfl ?_ (Steps.cons rfl ?_ (Steps.cons rfl ?_ (Steps.cons rfl ?_ (Steps.cons rfl ?_ (Steps.cons rfl ?_ (Steps.cons rfl ?_ (Steps.cons rfl ?_ (Steps.cons rfl ?_ (Steps.cons rfl ?_ (Steps.cons rfl ?_ (Steps.cons rfl ?_ (Steps.cons rfl ?_ (Steps.cons rfl ?_ (Steps.cons rfl ?_ Steps.nil)))))))))))))))))))))))
          · intro f lo hi W2 hb hd K hK
            rw [if_pos (by rfl)]
            go_simp
            exact hK _ _ (Below.refl _ _) (fun V _ _ _ _ => rfl)
          · intro f lo hi W2 hb hd K hK
            have e0 : f 0 = _ := (hd 0 (by decide) (by decide))
            clear hd
            try dsimp only at hK
            generalize f 0 = x0 at e0 hK ⊢
            subst e0
            rw [if_pos (by rfl)]
            go_simp
            exact hK _ _ (Below.refl _ _) (fun V _ _ _ _ => rfl)
          · intro f lo hi W2 hb hd K hK
            have e1 : f 1 = _ := (hd 1 (by decide) (by decide))
            clear hd
            try dsimp only at hK
            generalize f 1 = x1 at e1 hK ⊢
            subst e1
            rw [if_pos (by rfl)]
            go_simp
            exact hK _ _ (Below.refl _ _) (fun V _ _ _ _ => rfl)
          · intro f lo hi W2 hb hd K hK
            have e2 : f 2 = _ := (hd 2 (by decide) (by decide))
            have e1 : f 1 = _ := (hd 1 (by decide) (by decide))
            clear hd
            try dsimp only at hK
            generalize f 2 = x2 at e2 hK ⊢
            generalize f 1 = x1 at e1 hK ⊢
            subst e2
            subst e1
            rw [if_pos (by rfl)]
            go_simp
            exact hK _ _ (Below.refl _ _) (fun V _ _ _ _ => rfl)
          · intro f lo hi W2 hb hd K hK
            have e1 : f 1 = _ := (hd 1 (by decide) (by decide))
            have e3 : f 3 = _ := (hd 3 (by decide) (by decide))
            clear hd
            try dsimp only at hK
            generalize f 1 = x1 at e1 hK ⊢
            generalize f 3 = x3 at e3 hK ⊢
            subst e1
            subst e3
            rw [if_pos (by rfl)]
            go_simp
            exact hK _ _ (Below.refl _ _) (fun V _ _ _ _ => rfl)
          · intro f lo hi W2 hb hd K hK
            have e4 : f 4 = _ := (hd 4 (by decide) (by decide))
            clear hd
            try dsimp only at hK
            generalize f 4 = x4 at e4 hK ⊢
            subst e4
            rw [if_pos (by rfl)]
            go_simp
            exact hK _ _ (Below.refl _ _) (fun V _ _ _ _ => rfl)
          · intro f lo hi W2 hb hd K hK
            have e5 : f 5 = _ := (hd 5 (by decide) (by decide))
            clear hd
            try dsimp only at hK
            generalize f 5 = x5 at e5 hK ⊢
            subst e5
            rw [if_pos (by rfl)]
            obtain ⟨y0, y1, y2, y3⟩ := four_cells (HY10.o.grow hb)
            go_simp
            exact hK _ _ (Below.refl _ _) (fun V _ _ _ _ => rfl)
          · intro f lo hi W2 hb hd K hK
            have e5 : f 5 = _ := (hd 5 (by decide) (by decide))
            clear hd
            try dsimp only at hK
            generalize f 5 = x5 at e5 hK ⊢
            subst e5
            rw [if_pos (by rfl)]
            go_simp
            exact hK _ _ (Below.refl _ _) (fun V _ _ _ _ => rfl)
          · intro f lo hi W2 hb hd K hK
            have e7 : f 7 = _ := (hd 7 (by decide) (by decide))
            have e5 : f 5 = _ := (hd 5 (by decide) (by decide))
            clear hd
            try dsimp only at hK
            generalize f 7 = x7 at e7 hK ⊢
            generalize f 5 = x5 at e5 hK ⊢
            subst e7
            subst e5
            rw [if_pos (by rfl)]
            go_simp
            refine (HOF.o W2).mono ?_
            rintro e w2 ⟨rfl, hb2⟩
            exact hK _ _ hb2 (fun V _ _ _ _ => rfl)
          · intro f lo hi W2 hb hd K hK
            have e6 : f 6 = _ := (hd 6 (by decide) (by decide))
            have e8 : f 8 = _ := (hd 8 (by decide) (by decide))
            have e5 : f 5 = _ := (hd 5 (by decide) (by decide))
            clear hd
            try dsimp only at hK
            generalize f 6 = x6 at e6 hK ⊢
            generalize f 8 = x8 at e8 hK ⊢
            generalize f 5 = x5 at e5 hK ⊢
            subst e6
            subst e8
            subst e5
            rw [if_pos (by rfl)]
            go_simp
            refine (HEQ1.o W2 hb).mono ?_
            rintro e w2 ⟨rfl, hb2⟩
            exact hK _ _ hb2 (fun V _ _ _ _ => rfl)
          · intro f lo hi W2 hb hd K hK
            have e5 : f 5 = _ := (hd 5 (by decide) (by decide))
            have e9 : f 9 = _ := (hd 9 (by decide) (by decide))
            clear hd
            try dsimp only at hK
            generalize f 5 = x5 at e5 hK ⊢
            generalize f 9 = x9 at e9 hK ⊢
            subst e5
            subst e9
            rw [if_pos (by rfl)]
            go_simp
            exact hK _ _ (Below.refl _ _) (fun V _ _ _ _ => rfl)
          · intro f lo hi W2 hb hd K hK
            have e10 : f 10 = _ := (hd 10 (by decide) (by decide))
            clear hd
            try dsimp only at hK
            generalize f 10 = x10 at e10 hK ⊢
            subst e10
            rw [if_pos (by rfl)]
            go_simp
            exact hK _ _ (Below.refl _ _) (fun V _ _ _ _ => rfl)
          · intro f lo hi W2 hb hd K hK
            have e11 : f 11 = _ := (hd 11 (by decide) (by decide))
            clear hd
            try dsimp only at hK
            generalize f 11 = x11 at e11 hK ⊢
            subst e11
            rw [if_pos (by rfl)]
            go_simp
            exact hK _ _ (Below.refl _ _) (fun V _ _ _ _ => rfl)
          · intro f lo hi W2 hb hd K hK
            have e12 : f 12 = _ := (hd 12 (by decide) (by decide))
            have e11 : f 11 = _ := (hd 11 (by decide) (by decide))
            clear hd
            try dsimp only at hK
            generalize f 12 = x12 at e12 hK ⊢
            generalize f 11 = x11 at e11 hK ⊢
            subst e12
            subst e11
            rw [if_pos (by rfl)]
            go_simp
            exact hK _ _ (Below.refl _ _) (fun V _ _ _ _ => rfl)
          · intro f lo hi W2 hb hd K hK
            have e11 : f 11 = _ := (hd 11 (by decide) (by decide))
            have e13 : f 13 = _ := (hd 13 (by decide) (by decide))
            clear hd
            try dsimp only at hK
            generalize f 11 = x11 at e11 hK ⊢
            generalize f 13 = x13 at e13 hK ⊢
            subst e11
            subst e13
            rw [if_pos (by rfl)]
            go_simp
            exact hK _ _ (Below.refl _ _) (fun V _ _ _ _ => rfl)
          · intro f lo hi W2 hb hd K hK
            have e14 : f 14 = _ := (hd 14 (by decide) (by decide))
            clear hd
            try dsimp only at hK
            generalize f 14 = x14 at e14 hK ⊢
            subst e14
            rw [if_pos (by rfl)]
            go_simp
            exact hK _ _ (Below.refl _ _) (fun V _ _ _ _ => rfl)
          · intro f lo hi W2 hb hd K hK
            have e15 : f 15 = _ := (hd 15 (by decide) (by decide))
            clear hd
            try dsimp only at hK
            generalize f 15 = x15 at e15 hK ⊢
            subst e15
            rw [if_pos (by rfl)]
            obtain ⟨z0, z1, z2, z3⟩ := four_cells (HZ10.o.grow hb)
            go_simp
            exact hK _ _ (Below.refl _ _) (fun V _ _ _ _ => rfl)
          · intro f lo hi W2 hb hd K hK
            have e15 : f 15 = _ := (hd 15 (by decide) (by decide))
            clear hd
            try dsimp only at hK
            generalize f 15 = x15 at e15 hK ⊢
            subst e15
            rw [if_pos (by rfl)]
            obtain ⟨y0, y1, y2, y3⟩ := four_cells (HY10.o.grow hb)
            go_simp
            exact hK _ _ (Below.refl _ _) (fun V _ _ _ _ => rfl)
          · intro f lo hi W2 hb hd K hK
            have e15 : f 15 = _ := (hd 15 (by decide) (by decide))
            clear hd
            try dsimp only at hK
            generalize f 15 = x15 at e15 hK ⊢
            subst e15
            rw [if_pos (by rfl)]
            obtain ⟨y0, y1, y2, y3⟩ := four_cells (HY10.o.grow hb)
            go_simp
            exact hK _ _ (Below.refl _ _) (fun V _ _ _ _ => rfl)
          · intro f lo hi W2 hb hd K hK
            have e15 : f 15 = _ := hd 15 (by decide) (by decide)
            have e17 : f 17 = _ := hd 17 (by decide) (by decide)
            have e18 : f 18 = _ := hd 18 (by decide) (by decide)
            clear hd
            try dsimp only at hK
            generalize f 15 = x15 at e15 hK ⊢
            generalize f 17 = x17 at e17 hK ⊢
            generalize f 18 = x18 at e18 hK ⊢
            subst e15
            subst e17
            subst e18
            rw [if_pos (by rfl)]
            go_simp
            exact hK (.slice (some ⟨W2.heap.size, 0, none⟩) 2 2) _ (below_alloc _ _) (fun V _ _ h _ => ⟨rfl, whole_newF h⟩)
          · intro f lo hi W2 hb hd K hK
            have e15 : f 15 = _ := hd 15 (by decide) (by decide)
            have e19 := (hd 19 (by decide) (by decide)).1
            have HF : Hq (∀ V, (∀ j ∈ [20, 19, 17, 15, 14, 11, 10, 5, 4, 1, 0, 3, 2, 9, 6, 8, 7, 13, 12, 18], j ≠ 20 → RX14 t (.agg #[.int .i64 yk, .string (st yt), .slice yko ykl.length ykc, .slice yo yis.length yc]) (.agg #[.int .i64 zk, .string (st zt), .slice zko zkl.length zkc, .slice zo zis.length zc]) #[.int .i64 yk, .string (st yt), .slice yko ykl.length ykc, .slice yo yis.length yc, .int .i64 yk, .string (st yt), .slice yko ykl.length ykc, .slice yo yis.length yc] j (f j) (lo j) (hi j) V) → Whole V (slB (f 19)) 25 #[.int .i64 yk, .string (st yt), .slice yko ykl.length ykc, .slice yo yis.length yc, .int .i64 yk, .string (st yt), .slice yko ykl.length ykc, .slice yo yis.length yc]) := hq (fun V h => (h 19 (by decide) (by decide)).2)
            clear hd
            try dsimp only at hK
            generalize slB (f 19) = g at *
            generalize f 15 = x15 at e15 hK ⊢
            generalize f 19 = x19 at e19 hK ⊢
            subst e15
            subst e19
            rw [if_pos (by rfl)]
            go_simp
            refine (vRow_any _ _ _ _).mono ?_
            rintro e w2 ⟨rfl, hb2⟩
            exact hK _ _ hb2 (fun V _ _ h h2 => ⟨rfl, HF.o V h2⟩)
          · intro f lo hi W2 hb hd K hK
            have e15 : f 15 = _ := hd 15 (by decide) (by decide)
            have e16 : f 16 = _ := hd 16 (by decide) (by decide)
            obtain ⟨e20, hw20⟩ := hd 20 (by decide) (by decide)
            clear hd
            try dsimp only at hK
            generalize itB (f 20) = g at *
            generalize f 15 = x15 at e15 hK ⊢
            generalize f 16 = x16 at e16 hK ⊢
            generalize f 20 = x20 at e20 hK ⊢
            subst e15
            subst e16
            subst e20
            rw [if_pos (by rfl)]
            go_simp
            refine (HEQ2.o W2 hb g hw20).mono ?_
            rintro e w2 ⟨rfl, hb2⟩
            exact hK _ _ hb2 (fun V _ _ _ _ => rfl)
          · intro f lo hi W2 hb hd K hK
            have e15 : f 15 = _ := (hd 15 (by decide) (by decide))
            have e21 : f 21 = _ := (hd 21 (by decide) (by decide))
            clear hd
            try dsimp only at hK
            generalize f 15 = x15 at e15 hK ⊢
            generalize f 21 = x21 at e21 hK ⊢
            subst e15
            subst e21
            rw [if_pos (by rfl)]
            go_simp
            exact hK _ _ (Below.refl _ _) (fun V _ _ _ _ => rfl)
          · intro f lo hi W2 hb hd K hK
            have e22 : f 22 = _ := (hd 22 (by decide) (by decide))
            clear hd
            try dsimp only at hK
            generalize f 22 = x22 at e22 hK ⊢
            subst e22
            rw [if_pos (by rfl)]
            go_simp
            exact hK _ _ (Below.refl _ _) (fun V _ _ _ _ => rfl)
        case hex =>
          intro f lo hi W2 hb hR hbx hk
          have e22 : f 22 = _ := hR 22 (by decide)
          have e23 : f 23 = _ := hR 23 (by decide)
          have HV := hq (HFI.o W2 (below_trans HB10.o hb))
          clear hR hbx hk
          generalize f 23 = x23 at *
          subst e23
          refine wpOps_done ?_
          clear HFI
          go_wp2_with fail
          first | exact HV.o | (go_ret; exact HV.o)
  · have e0 : (er == 0) = false := beq_eq_false_iff_ne.2 h0
    have HBA := hq HB3.o
    clear HRN HTX HNR HN3 HB3 h0
    go_wp2_with fail
    refine (HQT.o w3 HBA.o).mono ?_
    rintro e w6 ⟨rfl, hb6⟩
    have HB6 := hq (below_trans HBA.o hb6)
    clear hb6 HQT HBA
    cases vt with
    | false =>
      have hqq := HQN.o rfl
      injection hqq with hq1 hq2
      subst hq1 hq2
      have HV := hq (HFI.o w6 HB6.o)
      clear HFI HQN HQY HQR HQ2 HOF HOI HQZ
      go_wp2_with fail
      first | exact HV.o | (go_ret; exact HV.o)
    | true =>
      have hq2 := HQY.o rfl
      subst hq2
      have HQR' := hq (HQR.o rfl)
      have HQ2' := hq (HQ2.o rfl)
      have hql := HQZ.o
      clear HQN HQY HQR HQ2 HQZ
      go_wp2_with fail
      refine (HQR'.o _ (by simp) w6 HB6.o).mono ?_
      rintro e w7 ⟨y, rfl, ⟨hyo, hym⟩, hb7⟩
      obtain ⟨yk, yt, ⟨yko, ykc, ykl⟩, yo, yc, yis⟩ := y
      rw [Vt.v_mk']
      have hb8 := below_alloc w7 (.cells #[.int .i64 yk, .string (st yt), .slice yko ykl.length ykc, .slice yo yis.length yc] 25)
      have HB8 := hq (below_trans (below_trans HB6.o hb7) hb8)
      have HO8 := hq (hyo.grow hb8)
      have HM8 := hq hym
      have HY8 := hq (Whole.made w7 25 #[.int .i64 yk, .string (st yt), .slice yko ykl.length ykc, .slice yo yis.length yc])
      clear hb7 hb8 HQR' hyo hym HB6
      go_upto_region 13 with fail
      generalize (w7.alloc (.cells #[.int .i64 yk, .string (st yt), .slice yko ykl.length ykc, .slice yo yis.length yc] 25)) = w8 at *
      generalize w7.heap.size = g13 at *
      go_wp2_with fail
      refine (HQ2'.o _ (by simp) w8 HB8.o).mono ?_
      rintro e w9 ⟨z, rfl, ⟨hzo, hzm⟩, hb9⟩
      have HZI := hq (show IsVR _ z.v w9 from ⟨z, rfl, hzo, hzm⟩)
      obtain ⟨zk, zt, ⟨zko, zkc, zkl⟩, zo, zc, zis⟩ := z
      rw [Vt.v_mk'] at HZI ⊢
      have hb10 := below_alloc w9 (.cells #[.int .i64 zk, .string (st zt), .slice zko zkl.length zkc, .slice zo zis.length zc] 25)
      have HB10 := hq (below_trans (below_trans HB8.o hb9) hb10)
      have HO10 := hq ((HO8.o.grow hb9).grow hb10)
      have HY10 := hq ((HY8.o.grow hb9).grow hb10)
      have HZI10 := hq (HZI.o.growR hb10)
      have HZ10 := hq (Whole.made w9 25 #[.int .i64 zk, .string (st zt), .slice zko zkl.length zkc, .slice zo zis.length zc])
      clear hb9 hb10 hzo hzm HB8 HO8 HY8 HZI HQ2'
      go_upto_region 14 with fail
      generalize (w9.alloc (.cells #[.int .i64 zk, .string (st zt), .slice zko zkl.length zkc, .slice zo zis.length zc] 25)) = w10 at *
      generalize w9.heap.size = g16 at *
      have HEQ1 := hq (fun V (h : Below w10.heap.size w10 V) => equalVR_any (r := true) (show IsVR (.mk 4 t.data.toList [] []) (.agg #[.int .i64 yk, .string (st yt), .slice yko ykl.length ykc, .slice yo yis.length yc]) V from ⟨.mk yk yt ⟨yko, ykc, ykl⟩ yo yc yis, by rw [Vt.v_mk'], HO10.o.grow h, HM8.o⟩) (HOI.o V) ⟨fun _ => rfl, fun _ => rfl⟩)
      have HEQ2 := hq (fun V (h : Below w10.heap.size w10 V) (g : Nat) (hw : Whole V g 25 #[.int .i64 yk, .string (st yt), .slice yko ykl.length ykc, .slice yo yis.length yc, .int .i64 yk, .string (st yt), .slice yko ykl.length ykc, .slice yo yis.length yc]) => equalVR_any (r := true) (HZI10.o.growR h) (row_two (HO10.o.grow h) HM8.o hw) ⟨fun _ => rfl, fun _ => rfl⟩)
      clear HOI
      refine go_flow (by kernel_rfl) [(0, 81), (1, 82), (2, 83), (3, 84), (4, 85), (5, 86), (6, 87), (7, 88), (8, 89), (9, 90), (10, 91), (11, 92), (12, 93), (13, 94), (14, 95), (15, 96), (16, 97), (17, 98), (18, 99), (19, 100), (20, 101), (21, 102), (22, 103), (23, 4)] [[0], [1, 0], [2, 1, 0], [3, 2, 1, 0], [4, 1, 0, 3, 2], [5, 4, 1, 0, 3, 2], [6, 5, 4, 1, 0, 3, 2], [7, 5, 4, 1, 0, 3, 2], [8, 7, 5, 4, 1, 0, 3, 2], [9, 6, 5, 4, 1, 0, 3, 2, 8, 7], [10, 5, 4, 1, 0, 3, 2, 9, 6, 8, 7], [11, 10, 5, 4, 1, 0, 3, 2, 9, 6, 8, 7], [12, 11, 10, 5, 4, 1, 0, 3, 2, 9, 6, 8, 7], [13, 12, 11, 10, 5, 4, 1, 0, 3, 2, 9, 6, 8, 7], [14, 11, 10, 5, 4, 1, 0, 3, 2, 9, 6, 8, 7, 13, 12], [15, 14, 11, 10, 5, 4, 1, 0, 3, 2, 9, 6, 8, 7, 13, 12], [16, 15, 14, 11, 10, 5, 4, 1, 0, 3, 2, 9, 6, 8, 7, 13, 12], [17, 15, 14, 11, 10, 5, 4, 1, 0, 3, 2, 9, 6, 8, 7, 13, 12], [18, 15, 14, 11, 10, 5, 4, 1, 0, 3, 2, 9, 6, 8, 7, 13, 12], [19, 17, 15, 14, 11, 10, 5, 4, 1, 0, 3, 2, 9, 6, 8, 7, 13, 12, 18], [20, 19, 17, 15, 14, 11, 10, 5, 4, 1, 0, 3, 2, 9, 6, 8, 7, 13, 12, 18], [21, 16, 15, 14, 11, 10, 5, 4, 1, 0, 3, 2, 9, 6, 8, 7, 13, 12, 20, 19, 17, 18], [22, 15, 14, 11, 10, 5, 4, 1, 0, 3, 2, 9, 6, 8, 7, 13, 12, 21, 16, 20, 19, 17, 18], [23, 22, 15, 14, 11, 10, 5, 4, 1, 0, 3, 2, 9, 6, 8, 7, 13, 12, 21, 16, 20, 19, 17, 18]] [] [] (RX14 t (.agg #[.int .i64 yk, .string (st yt), .slice yko ykl.length ykc, .slice yo yis.length yc]) (.agg #[.int .i64 zk, .string (st zt), .slice zko zkl.length zkc, .slice zo zis.length zc]) #[.int .i64 yk, .string (st yt), .slice yko ykl.length ykc, .slice yo yis.length yc, .int .i64 yk, .string (st yt), .slice yko ykl.length ykc, .slice yo yis.length yc]) ?Ay ?hAy (by kernel_rfl) ?hsy ?hey
      case hAy =>
        intro f
        simp only [putS]
        go_simp
        rfl
      case hsy =>
        refine Steps.cons rfl ?_ (Steps.cons rfl ?_ (Steps.cons rfl ?_ (Steps.cons rfl ?_ (Steps.cons rfl ?_ (Steps.cons rfl ?_ (Steps.cons rfl ?_ (Steps.cons rfl ?_ (Steps.cons rfl ?_ (Steps.cons rfl ?_ (Steps.cons rfl ?_ (Steps.cons rfl ?_ (Steps.cons rfl ?_ (Steps.cons rfl ?_ (Steps.cons rfl ?_ (Steps.cons rfl ?_ (Steps.cons rfl ?_ (Steps.cons rfl ?_ (Steps.cons rfl ?_ (Steps.cons rfl ?_ (Steps.cons rfl ?_ (Steps.cons rfl ?_ (Steps.cons rfl ?_ (Steps.cons rfl ?_ Steps.nil)))))))))))))))))))))))
        · intro f lo hi W2 hb hd K hK
          rw [if_pos (by rfl)]
          go_simp
          exact hK _ _ (Below.refl _ _) (fun V _ _ _ _ => rfl)
        · intro f lo hi W2 hb hd K hK
          have e0 : f 0 = _ := (hd 0 (by decide) (by decide))
          clear hd
          try dsimp only at hK
          generalize f 0 = x0 at e0 hK ⊢
          subst e0
          rw [if_pos (by rfl)]
          go_simp
          exact hK _ _ (Below.refl _ _) (fun V _ _ _ _ => rfl)
        · intro f lo hi W2 hb hd K hK
          have e1 : f 1 = _ := (hd 1 (by decide) (by decide))
          clear hd
          try dsimp only at hK
          generalize f 1 = x1 at e1 hK ⊢
          subst e1
          rw [if_pos (by rfl)]
          go_simp
          exact hK _ _ (Below.refl _ _) (fun V _ _ _ _ => rfl)
        · intro f lo hi W2 hb hd K hK
          have e2 : f 2 = _ := (hd 2 (by decide) (by decide))
          have e1 : f 1 = _ := (hd 1 (by decide) (by decide))
          clear hd
          try dsimp only at hK
          generalize f 2 = x2 at e2 hK ⊢
          generalize f 1 = x1 at e1 hK ⊢
          subst e2
          subst e1
          rw [if_pos (by rfl)]
          go_simp
          exact hK _ _ (Below.refl _ _) (fun V _ _ _ _ => rfl)
        · intro f lo hi W2 hb hd K hK
          have e1 : f 1 = _ := (hd 1 (by decide) (by decide))
          have e3 : f 3 = _ := (hd 3 (by decide) (by decide))
          clear hd
          try dsimp only at hK
          generalize f 1 = x1 at e1 hK ⊢
          generalize f 3 = x3 at e3 hK ⊢
          subst e1
          subst e3
          rw [if_pos (by rfl)]
          go_simp
          exact hK _ _ (Below.refl _ _) (fun V _ _ _ _ => rfl)
        · intro f lo hi W2 hb hd K hK
          have e4 : f 4 = _ := (hd 4 (by decide) (by decide))
          clear hd
          try dsimp only at hK
          generalize f 4 = x4 at e4 hK ⊢
          subst e4
          rw [if_pos (by rfl)]
          go_simp
          exact hK _ _ (Below.refl _ _) (fun V _ _ _ _ => rfl)
        · intro f lo hi W2 hb hd K hK
          have e5 : f 5 = _ := (hd 5 (by decide) (by decide))
          clear hd
          try dsimp only at hK
          generalize f 5 = x5 at e5 hK ⊢
          subst e5
          rw [if_pos (by rfl)]
          obtain ⟨y0, y1, y2, y3⟩ := four_cells (HY10.o.grow hb)
          go_simp
          exact hK _ _ (Below.refl _ _) (fun V _ _ _ _ => rfl)
        · intro f lo hi W2 hb hd K hK
          have e5 : f 5 = _ := (hd 5 (by decide) (by decide))
          clear hd
          try dsimp only at hK
          generalize f 5 = x5 at e5 hK ⊢
          subst e5
          rw [if_pos (by rfl)]
          go_simp
          exact hK _ _ (Below.refl _ _) (fun V _ _ _ _ => rfl)
        · intro f lo hi W2 hb hd K hK
          have e7 : f 7 = _ := (hd 7 (by decide) (by decide))
          have e5 : f 5 = _ := (hd 5 (by decide) (by decide))
          clear hd
          try dsimp only at hK
          generalize f 7 = x7 at e7 hK ⊢
          generalize f 5 = x5 at e5 hK ⊢
          subst e7
          subst e5
          rw [if_pos (by rfl)]
          go_simp
          refine (HOF.o W2).mono ?_
          rintro e w2 ⟨rfl, hb2⟩
          exact hK _ _ hb2 (fun V _ _ _ _ => rfl)
        · intro f lo hi W2 hb hd K hK
          have e6 : f 6 = _ := (hd 6 (by decide) (by decide))
          have e8 : f 8 = _ := (hd 8 (by decide) (by decide))
          have e5 : f 5 = _ := (hd 5 (by decide) (by decide))
          clear hd
          try dsimp only at hK
          generalize f 6 = x6 at e6 hK ⊢
          generalize f 8 = x8 at e8 hK ⊢
          generalize f 5 = x5 at e5 hK ⊢
          subst e6
          subst e8
          subst e5
          rw [if_pos (by rfl)]
          go_simp
          refine (HEQ1.o W2 hb).mono ?_
          rintro e w2 ⟨rfl, hb2⟩
          exact hK _ _ hb2 (fun V _ _ _ _ => rfl)
        · intro f lo hi W2 hb hd K hK
          have e5 : f 5 = _ := (hd 5 (by decide) (by decide))
          have e9 : f 9 = _ := (hd 9 (by decide) (by decide))
          clear hd
          try dsimp only at hK
          generalize f 5 = x5 at e5 hK ⊢
          generalize f 9 = x9 at e9 hK ⊢
          subst e5
          subst e9
          rw [if_pos (by rfl)]
          go_simp
          exact hK _ _ (Below.refl _ _) (fun V _ _ _ _ => rfl)
        · intro f lo hi W2 hb hd K hK
          have e10 : f 10 = _ := (hd 10 (by decide) (by decide))
          clear hd
          try dsimp only at hK
          generalize f 10 = x10 at e10 hK ⊢
          subst e10
          rw [if_pos (by rfl)]
          go_simp
          exact hK _ _ (Below.refl _ _) (fun V _ _ _ _ => rfl)
        · intro f lo hi W2 hb hd K hK
          have e11 : f 11 = _ := (hd 11 (by decide) (by decide))
          clear hd
          try dsimp only at hK
          generalize f 11 = x11 at e11 hK ⊢
          subst e11
          rw [if_pos (by rfl)]
          go_simp
          exact hK _ _ (Below.refl _ _) (fun V _ _ _ _ => rfl)
        · intro f lo hi W2 hb hd K hK
          have e12 : f 12 = _ := (hd 12 (by decide) (by decide))
          have e11 : f 11 = _ := (hd 11 (by decide) (by decide))
          clear hd
          try dsimp only at hK
          generalize f 12 = x12 at e12 hK ⊢
          generalize f 11 = x11 at e11 hK ⊢
          subst e12
          subst e11
          rw [if_pos (by rfl)]
          go_simp
          exact hK _ _ (Below.refl _ _) (fun V _ _ _ _ => rfl)
        · intro f lo hi W2 hb hd K hK
          have e11 : f 11 = _ := (hd 11 (by decide) (by decide))
          have e13 : f 13 = _ := (hd 13 (by decide) (by decide))
          clear hd
          try dsimp only at hK
          generalize f 11 = x11 at e11 hK ⊢
          generalize f 13 = x13 at e13 hK ⊢
          subst e11
          subst e13
          rw [if_pos (by rfl)]
          go_simp
          exact hK _ _ (Below.refl _ _) (fun V _ _ _ _ => rfl)
        · intro f lo hi W2 hb hd K hK
          have e14 : f 14 = _ := (hd 14 (by decide) (by decide))
          clear hd
          try dsimp only at hK
          generalize f 14 = x14 at e14 hK ⊢
          subst e14
          rw [if_pos (by rfl)]
          go_simp
          exact hK _ _ (Below.refl _ _) (fun V _ _ _ _ => rfl)
        · intro f lo hi W2 hb hd K hK
          have e15 : f 15 = _ := (hd 15 (by decide) (by decide))
          clear hd
          try dsimp only at hK
          generalize f 15 = x15 at e15 hK ⊢
          subst e15
          rw [if_pos (by rfl)]
          obtain ⟨z0, z1, z2, z3⟩ := four_cells (HZ10.o.grow hb)
          go_simp
          exact hK _ _ (Below.refl _ _) (fun V _ _ _ _ => rfl)
        · intro f lo hi W2 hb hd K hK
          have e15 : f 15 = _ := (hd 15 (by decide) (by decide))
          clear hd
          try dsimp only at hK
          generalize f 15 = x15 at e15 hK ⊢
          subst e15
          rw [if_pos (by rfl)]
          obtain ⟨y0, y1, y2, y3⟩ := four_cells (HY10.o.grow hb)
          go_simp
          exact hK _ _ (Below.refl _ _) (fun V _ _ _ _ => rfl)
        · intro f lo hi W2 hb hd K hK
          have e15 : f 15 = _ := (hd 15 (by decide) (by decide))
          clear hd
          try dsimp only at hK
          generalize f 15 = x15 at e15 hK ⊢
          subst e15
          rw [if_pos (by rfl)]
          obtain ⟨y0, y1, y2, y3⟩ := four_cells (HY10.o.grow hb)
          go_simp
          exact hK _ _ (Below.refl _ _) (fun V _ _ _ _ => rfl)
        · intro f lo hi W2 hb hd K hK
          have e15 : f 15 = _ := hd 15 (by decide) (by decide)
          have e17 : f 17 = _ := hd 17 (by decide) (by decide)
          have e18 : f 18 = _ := hd 18 (by decide) (by decide)
          clear hd
          try dsimp only at hK
          generalize f 15 = x15 at e15 hK ⊢
          generalize f 17 = x17 at e17 hK ⊢
          generalize f 18 = x18 at e18 hK ⊢
          subst e15
          subst e17
          subst e18
          rw [if_pos (by rfl)]
          go_simp
          exact hK (.slice (some ⟨W2.heap.size, 0, none⟩) 2 2) _ (below_alloc _ _) (fun V _ _ h _ => ⟨rfl, whole_newF h⟩)
        · intro f lo hi W2 hb hd K hK
          have e15 : f 15 = _ := hd 15 (by decide) (by decide)
          have e19 := (hd 19 (by decide) (by decide)).1
          have HF : Hq (∀ V, (∀ j ∈ [20, 19, 17, 15, 14, 11, 10, 5, 4, 1, 0, 3, 2, 9, 6, 8, 7, 13, 12, 18], j ≠ 20 → RX14 t (.agg #[.int .i64 yk, .string (st yt), .slice yko ykl.length ykc, .slice yo yis.length yc]) (.agg #[.int .i64 zk, .string (st zt), .slice zko zkl.length zkc, .slice zo zis.length zc]) #[.int .i64 yk, .string (st yt), .slice yko ykl.length ykc, .slice yo yis.length yc, .int .i64 yk, .string (st yt), .slice yko ykl.length ykc, .slice yo yis.length yc] j (f j) (lo j) (hi j) V) → Whole V (slB (f 19)) 25 #[.int .i64 yk, .string (st yt), .slice yko ykl.length ykc, .slice yo yis.length yc, .int .i64 yk, .string (st yt), .slice yko ykl.length ykc, .slice yo yis.length yc]) := hq (fun V h => (h 19 (by decide) (by decide)).2)
          clear hd
          try dsimp only at hK
          generalize slB (f 19) = g at *
          generalize f 15 = x15 at e15 hK ⊢
          generalize f 19 = x19 at e19 hK ⊢
          subst e15
          subst e19
          rw [if_pos (by rfl)]
          go_simp
          refine (vRow_any _ _ _ _).mono ?_
          rintro e w2 ⟨rfl, hb2⟩
          exact hK _ _ hb2 (fun V _ _ h h2 => ⟨rfl, HF.o V h2⟩)
        · intro f lo hi W2 hb hd K hK
          have e15 : f 15 = _ := hd 15 (by decide) (by decide)
          have e16 : f 16 = _ := hd 16 (by decide) (by decide)
          obtain ⟨e20, hw20⟩ := hd 20 (by decide) (by decide)
          clear hd
          try dsimp only at hK
          generalize itB (f 20) = g at *
          generalize f 15 = x15 at e15 hK ⊢
          generalize f 16 = x16 at e16 hK ⊢
          generalize f 20 = x20 at e20 hK ⊢
          subst e15
          subst e16
          subst e20
          rw [if_pos (by rfl)]
          go_simp
          refine (HEQ2.o W2 hb g hw20).mono ?_
          rintro e w2 ⟨rfl, hb2⟩
          exact hK _ _ hb2 (fun V _ _ _ _ => rfl)
        · intro f lo hi W2 hb hd K hK
          have e15 : f 15 = _ := (hd 15 (by decide) (by decide))
          have e21 : f 21 = _ := (hd 21 (by decide) (by decide))
          clear hd
          try dsimp only at hK
          generalize f 15 = x15 at e15 hK ⊢
          generalize f 21 = x21 at e21 hK ⊢
          subst e15
          subst e21
          rw [if_pos (by rfl)]
          go_simp
          exact hK _ _ (Below.refl _ _) (fun V _ _ _ _ => rfl)
        · intro f lo hi W2 hb hd K hK
          have e22 : f 22 = _ := (hd 22 (by decide) (by decide))
          clear hd
          try dsimp only at hK
          generalize f 22 = x22 at e22 hK ⊢
          subst e22
          rw [if_pos (by rfl)]
          go_simp
          exact hK _ _ (Below.refl _ _) (fun V _ _ _ _ => rfl)
      case hey =>
        intro f lo hi W2 hb hR hbx hk
        have e22 : f 22 = _ := hR 22 (by decide)
        have e23 : f 23 = _ := hR 23 (by decide)
        have HV := hq (HFI.o W2 (below_trans HB10.o hb))
        clear hR hbx hk
        generalize f 23 = x23 at *
        subst e23
        refine wpOps_done ?_
        clear HFI
        go_wp2_with fail
        first | exact HV.o | (go_ret; exact HV.o)
end Go.Proofs.YtnlkokgekjlmmaaGreatDoor
