/-
  WALKS: the document's Parse of paths.
-/
import Derived.Test.YtmadgdafgkleiaaGreatDoorPxU
import Derived.Test.YtmadgdafgkleiaaGreatDoorPtQ
import Derived.StillTailTactics
namespace Go.Proofs.YtmadgdafgkleiaaGreatDoor
open Go.RowKit
theorem own_putRow {w : World} {base e size g n cap : Nat} {xs : List Value} (h : w.ownsRow base e size (.slice (some ⟨g, 0, none⟩) n cap) n xs) (i : Nat) (u : Value) : (w.setCell ⟨g, i, none⟩ u).ownsRow base e size (.slice (some ⟨g, 0, none⟩) n cap) n (xs.set i u) := by
  obtain ⟨h1, h2⟩ := h
  refine ⟨by rw [List.length_set]; exact h1, ?_⟩
  rcases h2 with ⟨hv, _⟩ | ⟨g', cap', cur, hv, hb, hh, hc, hm, hs, ht⟩
  · cases hv
  · injection hv with e1 e2 e3
    have e4 : g = g' := by injection e1 with e5; injection e5
    subst e4
    subst e3
    refine .inr ⟨g, cap, cur.setIfInBounds i u, rfl, hb, Whole.put (show Whole w g e cur from hh) i u, hc, hm, by rw [Array.size_setIfInBounds]; exact hs, ?_⟩
    rw [← ht, Array.toList_setIfInBounds, List.take_set]
theorem strV_addL {L : List Bs} {x : Bs} (b : UInt8) : (strV (L ++ [x])).set L.length (.string (st (x ++ [b]))) = strV (addL (L ++ [x]) b) := by
  rw [addL_snoc]
  unfold strV
  rw [List.map_append, List.map_append, List.set_append_right _ _ (by rw [List.length_map]; exact Nat.le_refl _), List.length_map, Nat.sub_self]
  rfl
theorem strV_last (L : List Bs) (x : Bs) : (strV (L ++ [x]))[L.length]? = some (.string (st x)) := by unfold strV; simp
theorem st_app (x : Bs) (b : UInt8) : st x ++ ⟨#[b]⟩ = st (x ++ [b]) := by
  apply ByteArray.ext
  simp
theorem st_slice1 (s : Bs) (k : Nat) (h : k < s.length) : (st s).extract k (k + 1) = ⟨#[s[k]]⟩ := by
  have hz : (st s).data.size = s.length := by simp
  apply ByteArray.ext
  rw [ByteArray.data_extract]
  apply Array.ext'
  simp
  rw [List.drop_eq_getElem_cons h]
  rfl
theorem addL_len {L : List Bs} {b : UInt8} (h : L ≠ []) : (addL L b).length = L.length := by
  have hx : L = L.dropLast ++ [L.getLast h] := (List.dropLast_concat_getLast h).symm
  rw [hx, addL_snoc, List.length_append, List.length_append]; rfl
theorem addL_ne (L : List Bs) (b : UInt8) : addL L b ≠ [] := by unfold addL; simp
theorem addL_each {L : List Bs} {b : UInt8} {k k' : Nat} (h : ∀ x ∈ L, x.length ≤ k) (hk : k < k') : ∀ x ∈ addL L b, x.length ≤ k' := by
  intro x hx
  unfold addL at hx
  rcases List.mem_append.1 hx with hx | hx
  · have := h x (List.dropLast_subset L hx); omega
  · rw [List.mem_singleton.1 hx, List.length_append, List.length_singleton]
    cases hl : L.getLast? with
    | none => simp; omega
    | some y =>
      have := h y (List.mem_of_getLast? hl)
      simp only [Option.getD_some]; omega
def pendM : Option (List Bs) → List Bs × Int
  | none => ([], 2)
  | some L => if 64 < L.length then ([], 3) else (L, 0)
set_option maxHeartbeats 8000000 in
set_option maxRecDepth 1000000 in
theorem rparse7_any (s : Bs) (w : World) (hs : s.length ≤ 1048576) : Calls Tryz.prog 36 #[.string (st s)] w (PpPost (pparseM s) w) := by
  have HV := hq (rvalid_any (st s) w (by rw [st_size]; unfold maxLen; omega))
  have hss : (st s).size = s.length := st_size s
  have HD := hq (pparse_rp s)
  have HN := hq (fun er W' => @pp_none (pparseM s) er w W')
  generalize valid (st s) = V at *
  obtain ⟨vn, vb⟩ := V
  simp only at HV HD
  have HOK := hq (fun (x : List Bs × Int) o c W' (h : pparseM s = x) (hr : W'.ownsRow w.heap.size 9 1 (.slice o x.1.length c) x.1.length (strV x.1)) (hb : Below w.heap.size w W') => (by rw [h]; exact ⟨o, c, rfl, hr, hb⟩ : PpPost (pparseM s) w (.returned (.tuple #[.slice o x.1.length c, .int .i64 x.2])) W'))
  generalize PpPost (pparseM s) w = PP at *
  generalize pparseM s = PM at *
  go_enter Tryz.func36, Tryz.ntmps36
  go_wp2_with fail
  refine HV.o.mono ?_
  rintro e w1 ⟨rfl, rfl⟩
  clear HV
  cases vb with
  | false =>
    have HV := hq (HN.o 2 w (by rw [HD.o, if_pos (.inl rfl)]) (Below.refl _ _))
    clear HN HOK HD
    go_wp2_with fail
    first | exact HV.o | (go_ret2; exact HV.o)
  | true =>
  by_cases hhd : s ≠ [] ∧ s.head? ≠ some 47
  · have HV := hq (HN.o 2 w (by rw [HD.o, if_pos (.inr hhd)]) (Below.refl _ _))
    obtain ⟨h1, h2⟩ := hhd
    cases s with
    | nil => exact absurd rfl h1
    | cons b r =>
      have hz : (0 : Int) < ((b :: r).length : Int) := by simp only [List.length_cons]; omega
      have hz2 : 0 < (st (b :: r)).size := by rw [st_size]; simp
      have hy : (((st (b :: r))[0]'hz2).toNat : Int) = (b.toNat : Int) := rfl
      have hne : ((b.toNat : Int) == 47) = false := beq_eq_false_iff_ne.2 (fun e => h2 (by simp only [List.head?_cons, Option.some.injEq]; exact UInt8.toNat_inj.1 (by show b.toNat = 47; omega)))
      generalize st (b :: r) = S at *
      generalize (b.toNat : Int) = z at *
      clear HN HOK HD h1 h2
      go_wp2_with fail
      first | exact HV.o | (go_ret2; exact HV.o)
  · have hsn : s = [] ∨ s.head? = some 47 := by
      by_cases e : s = []
      · exact .inl e
      · by_cases e2 : s.head? = some 47
        · exact .inr e2
        · exact absurd ⟨e, e2⟩ hhd
    have HD2 : Hq (PM = pendM (rpM s [])) := hq (by rw [HD.o, if_neg (by rintro (h | h); cases h; exact hhd h)]; unfold pendM; cases rpM s [] <;> rfl)
    have HNO : Hq (rpM s [] = none → ∀ W', Below w.heap.size w W' → PP (.returned (.tuple #[.slice none 0 0, .int .i64 2])) W') := hq (fun h W' hb => HN.o 2 W' (by rw [HD2.o, h]; rfl) hb)
    have HHD : Hq (∀ (h : 0 < s.length), s[0] = 47) := hq (fun h => by
      rcases hsn with e | e
      · rw [e] at h; cases h
      · cases s with
        | nil => cases h
        | cons b r => simpa using e)
    have hc0 : (¬ (0 : Int) < (s.length : Int)) ∨ ((0 : Int) < (s.length : Int) ∧ ∃ h : 0 < (st s).size, (((st s)[0]'h).toNat : Int) = 47) := by
      by_cases h : 0 < s.length
      · have hz2 : 0 < (st s).size := by rw [st_size]; exact h
        refine .inr ⟨by omega, hz2, ?_⟩
        have e : (st s)[0]'hz2 = s[0] := rfl
        rw [e, HHD.o h]; rfl
      · exact .inl (by omega)
    clear HD hhd hsn
    rcases hc0 with hc0 | ⟨hc0, hc1, hc2⟩
    case inl =>
      go_wp2_with fail
      go_loopw [6, 7, 8] (fun v i _ wr => ∃ (k : Nat) (L : List Bs), k ≤ s.length ∧ i = .int .i64 (k : Int) ∧ L.length ≤ k ∧ Hq (wr.ownsRow w.heap.size 9 1 v L.length (strV L)) ∧ Hq (rpM (s.drop k) L = rpM s []) ∧ Hq (0 < k → L ≠ []) ∧ Hq (∀ x ∈ L, x.length ≤ k) ∧ Hq (Below w.heap.size w wr)) (fun _ i _ _ => s.length - (intOf i).toNat)
      case atStart => exact ⟨0, [], Nat.zero_le _, rfl, Nat.le_refl _, hq (World.ownsRow_nil _ _ _ _), hq rfl, hq (fun h => absurd h (Nat.not_lt_zero _)), hq (fun x hx => by cases hx), hq (Below.refl _ _)⟩
      case round =>
        obtain ⟨k, L, hk, rfl, hLk, hrow, hrp, hne, hel, hb⟩ := hrel
        by_cases hkl : k < s.length
        · exfalso; omega
        · obtain rfl : k = s.length := by omega
          have hkz : ¬ (s.length : Int) < (s.length : Int) := by omega
          have hr := hrp.o
          rw [List.drop_length] at hr
          have hr2 : rpM s [] = some L := by rw [← hr]; rfl
          have hPM := HD2.o
          rw [hr2] at hPM
          unfold pendM at hPM
          simp only at hPM
          obtain ⟨a, cp, rfl⟩ := row_shapeP hrow.o
          by_cases h64 : 64 < L.length
          · have hz : (64 : Int) < (L.length : Int) := by omega
            have HV := hq (show PP (.returned (.tuple #[.slice none 0 0, .int .i64 3])) wr from HN.o 3 wr (by rw [hPM, if_pos h64]) hb.o)
            clear HNO HN HOK HD2 HHD hrow hel hrp hne hr hr2 hPM
            go_wp2_with fail
            first | exact HV.o | (go_ret2; exact HV.o)
          · have hz : ¬ (64 : Int) < (L.length : Int) := by omega
            have HV := hq (show PP (.returned (.tuple #[.slice a L.length cp, .int .i64 0])) wr from HOK.o (L, 0) a cp wr (by rw [hPM, if_neg h64]) hrow.o hb.o)
            clear HNO HN HOK HD2 HHD hrow hel hrp hne hr hr2 hPM
            go_wp2_with fail
            first | exact HV.o | (go_ret2; exact HV.o)
    case inr =>
      go_wp2_with fail
      go_loopw [6, 7, 8] (fun v i _ wr => ∃ (k : Nat) (L : List Bs), k ≤ s.length ∧ i = .int .i64 (k : Int) ∧ L.length ≤ k ∧ Hq (wr.ownsRow w.heap.size 9 1 v L.length (strV L)) ∧ Hq (rpM (s.drop k) L = rpM s []) ∧ Hq (0 < k → L ≠ []) ∧ Hq (∀ x ∈ L, x.length ≤ k) ∧ Hq (Below w.heap.size w wr)) (fun _ i _ _ => s.length - (intOf i).toNat)
      case atStart => exact ⟨0, [], Nat.zero_le _, rfl, Nat.le_refl _, hq (World.ownsRow_nil _ _ _ _), hq rfl, hq (fun h => absurd h (Nat.not_lt_zero _)), hq (fun x hx => by cases hx), hq (Below.refl _ _)⟩
      case round =>
        obtain ⟨k, L, hk, rfl, hLk, hrow, hrp, hne, hel, hb⟩ := hrel
        by_cases hkl : k < s.length
        · have hkz : (k : Int) < (s.length : Int) := by omega
          have hex := st_slice1 s k hkl
          have hbk : k = 0 → s[k] = 47 := fun e => by subst e; exact HHD.o hkl
          have hdr := List.drop_eq_getElem_cons hkl
          have HRP := hq (show rpM (s[k] :: s.drop (k + 1)) L = rpM s [] from by rw [← hdr]; exact hrp.o)
          clear hrp hdr
          have hex2 : (st s).extract k (k + 1) = st [s[k]] := hex
          clear hex
          generalize hbb : s[k] = b at *
          have HBB := hq hbb
          clear hbb
          have hkk : (k : Int) + 1 ≤ (s.length : Int) := by omega
          have HSZ := hq hb.o.size
          by_cases h47 : b = 47
          · subst h47
            have HRP2 : Hq (rpM (s.drop (k + 1)) (L ++ [[]]) = rpM s []) := hq (by rw [← rpM_slash]; exact HRP.o)
            have HEL : Hq (∀ x ∈ L ++ [[]], x.length ≤ k + 1) := hq (fun x hx => by
              rcases List.mem_append.1 hx with hx | hx
              · have := hel.o x hx; omega
              · rw [List.mem_singleton.1 hx]; exact Nat.zero_le _)
            have e1 : (([47] : Bs) == [47]) = true := rfl
            obtain ⟨i1, hi1, hy0, hy1, hy2⟩ := info_partsV infoSv
            have HOT : Hq (∀ g, u6.ownBlock = some g → w.heap.size ≤ g) := hq (fun g hg => (hrow.o.lt g hg).1)
            clear HRP hel hne hbk HNO HN HOK HD2 HHD HBB
            go_wp2_with (at_builtin; refine wpList_append_own _ rfl _ _ 31 rfl w.heap.size 9 i1 (.string ⟨#[]⟩) 1 16 Tryz.underlying31 hi1 hy0 hy1 hy2 rfl (by decide) _ _ _ rfl (hrow.o.alloc _) ⟨wr.heap.size, 0, none⟩ 1 1 [.string ⟨#[]⟩] rfl rfl (cells_new _ [.string ⟨#[]⟩] _) (by simp [Value.oneCell']) (by unfold maxLen; omega) (by omega) (by rw [World.size_alloc]; exact Nat.le_trans HSZ.o (Nat.le_succ _)) ?_)
            intro v' w2 hown' hgrow _
            have HROW := hq (show w2.ownsRow w.heap.size 9 1 v' (L ++ [[]]).length (strV (L ++ [[]])) from by rw [strV_snoc, List.length_append, List.length_singleton]; exact hown')
            have HB2 := hq ((hb.o.alloc HSZ.o _).grown hgrow (by rw [World.size_alloc]; exact Nat.le_trans HSZ.o (Nat.le_succ _)) HOT.o)
            clear hown' hgrow hrow hb HOT
            go_wp2_with fail
            go_roundw
            case rel => exact ⟨k + 1, L ++ [[]], hkl, int_eq (by omega), by rw [List.length_append, List.length_singleton]; omega, HROW, HRP2, hq (fun _ => by simp), HEL, HB2⟩
            case measure => simp [intOf]; omega
          have e1 : (([b] : Bs) == [47]) = false := beq_eq_false_iff_ne.2 (fun e => h47 (List.cons.inj e).1)
          have hk0 : 0 < k := Nat.pos_of_ne_zero (fun e => h47 (hbk e))
          have hLn : L ≠ [] := hne.o hk0
          clear hbk hne
          by_cases h126 : b = 126
          · subst h126
            have e2 : (([126] : Bs) == [126]) = true := rfl
            by_cases hk1 : k + 1 < s.length
            · have hk1z : ¬ (s.length : Int) ≤ (k : Int) + 1 := by omega
              have hk1s : k + 1 < (st s).size := by rw [st_size]; exact hk1
              have hy : (((st s)[k + 1]'hk1s).toNat : Int) = (s[k + 1].toNat : Int) := rfl
              have hdr := List.drop_eq_getElem_cons hk1
              have HRP2 := hq (show rpM (126 :: s[k + 1] :: s.drop (k + 1 + 1)) L = rpM s [] from by rw [← hdr]; exact HRP.o)
              clear HRP hdr
              generalize s[k + 1] = c at *
              by_cases h49 : c = 49
              · subst h49
                rw [show ((49 : UInt8).toNat : Int) = 49 from rfl] at hy
                have HRP3 : Hq (rpM (s.drop (k + 1 + 1)) (addL L 47) = rpM s []) := hq (by rw [← rpM_49]; exact HRP2.o)
                obtain ⟨P, x, hPx⟩ : ∃ P x, L = P ++ [x] := ⟨L.dropLast, L.getLast hLn, (List.dropLast_concat_getLast hLn).symm⟩
                have hLl : L.length = P.length + 1 := by rw [hPx, List.length_append, List.length_singleton]
                have hrow2 := hrow.o
                rw [hLl] at hrow2
                obtain ⟨g, cp, hvg⟩ := row_shapeP1 hrow2
                rw [← hLl] at hvg
                subst hvg
                obtain ⟨cur, hcur⟩ := ownT' hrow.o g rfl
                have hfz : wr.frozen? ⟨g, P.length, none⟩ = false := (show Whole wr g 9 cur from hcur).free P.length
                have hgB : w.heap.size ≤ g := (hrow.o.lt g rfl).1
                have hcl : wr.cell? ⟨g, P.length, none⟩ = some (.string (st x)) := by
                  have h1 := hrow.o.cells (g := g) rfl P.length (.string (st x)) (by rw [hPx]; exact strV_last P x)
                  rwa [Addr.add_lit, Nat.zero_add] at h1
                have hxl : x.length ≤ k := hel.o x (by rw [hPx]; exact List.mem_append_right _ (List.mem_singleton.2 rfl))
                have HNEW := hq (fun (b' : UInt8) => (show (wr.setCell ⟨g, P.length, none⟩ (.string (st (x ++ [b'])))).ownsRow w.heap.size 9 1 (.slice (some ⟨g, 0, none⟩) L.length cp) (addL L b').length (strV (addL L b')) from by
                  have h1 := own_putRow hrow.o P.length (.string (st (x ++ [b'])))
                  have h2 := strV_addL (L := P) (x := x) b'
                  rw [← hPx] at h2
                  rw [h2] at h1
                  rw [addL_len hLn]
                  exact h1))
                have HB3 := hq (fun (u : Value) => below_put hb.o hgB P.length u)
                have HLN := hq (fun (b' : UInt8) => addL_len (b := b') hLn)
                have HEL := hq (fun (b' : UInt8) (k' : Nat) (hk' : k < k') => addL_each (b := b') hel.o hk')
                have HNE := hq (fun (b' : UInt8) => addL_ne L b')
                have hm1 : (L.length : Int) - 1 = (P.length : Int) := by omega
                have hm2 : (P.length : Int) < (L.length : Int) := by omega
                generalize L.length = m at *
                generalize P.length = n at *
                clear hPx hLl hrow2 hcur hrow hel
                have HN2 := hq (HNEW.o 47)
                have HS := hq (st_app x 47)
                clear HRP2 HNEW HNO HN HOK HD2 HHD HBB
                go_wp2_with fail
                go_roundw
                case rel => exact ⟨k + 1 + 1, addL L 47, hk1, int_eq (by omega), by rw [HLN.o 47]; omega, hq (by have h1 := HN2.o; rw [← HS.o] at h1; exact h1), HRP3, hq (fun _ => HNE.o 47), hq (HEL.o 47 _ (by omega)), hq (HB3.o _)⟩
                case measure => simp [intOf]; omega
              · have hc49 : ((c.toNat : Int) == 49) = false := beq_eq_false_iff_ne.2 (fun e => h49 (UInt8.toNat_inj.1 (by show c.toNat = 49; omega)))
                by_cases h48 : c = 48
                · subst h48
                  rw [show ((48 : UInt8).toNat : Int) = 48 from rfl] at hy
                  have HRP3 : Hq (rpM (s.drop (k + 1 + 1)) (addL L 126) = rpM s []) := hq (by rw [← rpM_48]; exact HRP2.o)
                  obtain ⟨P, x, hPx⟩ : ∃ P x, L = P ++ [x] := ⟨L.dropLast, L.getLast hLn, (List.dropLast_concat_getLast hLn).symm⟩
                  have hLl : L.length = P.length + 1 := by rw [hPx, List.length_append, List.length_singleton]
                  have hrow2 := hrow.o
                  rw [hLl] at hrow2
                  obtain ⟨g, cp, hvg⟩ := row_shapeP1 hrow2
                  rw [← hLl] at hvg
                  subst hvg
                  obtain ⟨cur, hcur⟩ := ownT' hrow.o g rfl
                  have hfz : wr.frozen? ⟨g, P.length, none⟩ = false := (show Whole wr g 9 cur from hcur).free P.length
                  have hgB : w.heap.size ≤ g := (hrow.o.lt g rfl).1
                  have hcl : wr.cell? ⟨g, P.length, none⟩ = some (.string (st x)) := by
                    have h1 := hrow.o.cells (g := g) rfl P.length (.string (st x)) (by rw [hPx]; exact strV_last P x)
                    rwa [Addr.add_lit, Nat.zero_add] at h1
                  have hxl : x.length ≤ k := hel.o x (by rw [hPx]; exact List.mem_append_right _ (List.mem_singleton.2 rfl))
                  have HNEW := hq (fun (b' : UInt8) => (show (wr.setCell ⟨g, P.length, none⟩ (.string (st (x ++ [b'])))).ownsRow w.heap.size 9 1 (.slice (some ⟨g, 0, none⟩) L.length cp) (addL L b').length (strV (addL L b')) from by
                    have h1 := own_putRow hrow.o P.length (.string (st (x ++ [b'])))
                    have h2 := strV_addL (L := P) (x := x) b'
                    rw [← hPx] at h2
                    rw [h2] at h1
                    rw [addL_len hLn]
                    exact h1))
                  have HB3 := hq (fun (u : Value) => below_put hb.o hgB P.length u)
                  have HLN := hq (fun (b' : UInt8) => addL_len (b := b') hLn)
                  have HEL := hq (fun (b' : UInt8) (k' : Nat) (hk' : k < k') => addL_each (b := b') hel.o hk')
                  have HNE := hq (fun (b' : UInt8) => addL_ne L b')
                  have hm1 : (L.length : Int) - 1 = (P.length : Int) := by omega
                  have hm2 : (P.length : Int) < (L.length : Int) := by omega
                  generalize L.length = m at *
                  generalize P.length = n at *
                  clear hPx hLl hrow2 hcur hrow hel
                  have HN2 := hq (HNEW.o 126)
                  have HS := hq (st_app x 126)
                  clear HRP2 HNEW HNO HN HOK HD2 HHD HBB hc49
                  go_wp2_with fail
                  go_roundw
                  case rel => exact ⟨k + 1 + 1, addL L 126, hk1, int_eq (by omega), by rw [HLN.o 126]; omega, hq (by have h1 := HN2.o; rw [← HS.o] at h1; exact h1), HRP3, hq (fun _ => HNE.o 126), hq (HEL.o 126 _ (by omega)), hq (HB3.o _)⟩
                  case measure => simp [intOf]; omega
                · have hc48 : ((c.toNat : Int) == 48) = false := beq_eq_false_iff_ne.2 (fun e => h48 (UInt8.toNat_inj.1 (by show c.toNat = 48; omega)))
                  have HV := hq (HNO.o (by rw [← HRP2.o]; exact rpM_none _ _ h48 h49) wr hb.o)
                  generalize (c.toNat : Int) = z at *
                  have hz48 : (z != 48) = true := by rw [bne, hc48]; rfl
                  have hz49 : (z != 49) = true := by rw [bne, hc49]; rfl
                  clear HRP2 HNO HN HOK HD2 HHD HBB hrow hel h48 h49
                  go_wp2_with fail
                  first | exact HV.o | (go_ret3; exact HV.o) | (go_ret2; exact HV.o)
            · have hk1z : (s.length : Int) ≤ (k : Int) + 1 := by omega
              have HV := hq (HNO.o (by rw [← HRP.o, List.drop_of_length_le (by omega)]; exact rpM_end _) wr hb.o)
              clear HRP HNO HN HOK HD2 HHD HBB hrow hel
              go_wp2_with fail
              first | exact HV.o | (go_ret2; exact HV.o)
          · have e2 : (([b] : Bs) == [126]) = false := beq_eq_false_iff_ne.2 (fun e => h126 (List.cons.inj e).1)
            have HRP3 : Hq (rpM (s.drop (k + 1)) (addL L b) = rpM s []) := hq (by rw [← rpM_byte _ _ h126 h47]; exact HRP.o)
            obtain ⟨P, x, hPx⟩ : ∃ P x, L = P ++ [x] := ⟨L.dropLast, L.getLast hLn, (List.dropLast_concat_getLast hLn).symm⟩
            have hLl : L.length = P.length + 1 := by rw [hPx, List.length_append, List.length_singleton]
            have hrow2 := hrow.o
            rw [hLl] at hrow2
            obtain ⟨g, cp, hvg⟩ := row_shapeP1 hrow2
            rw [← hLl] at hvg
            subst hvg
            obtain ⟨cur, hcur⟩ := ownT' hrow.o g rfl
            have hfz : wr.frozen? ⟨g, P.length, none⟩ = false := (show Whole wr g 9 cur from hcur).free P.length
            have hgB : w.heap.size ≤ g := (hrow.o.lt g rfl).1
            have hcl : wr.cell? ⟨g, P.length, none⟩ = some (.string (st x)) := by
              have h1 := hrow.o.cells (g := g) rfl P.length (.string (st x)) (by rw [hPx]; exact strV_last P x)
              rwa [Addr.add_lit, Nat.zero_add] at h1
            have hxl : x.length ≤ k := hel.o x (by rw [hPx]; exact List.mem_append_right _ (List.mem_singleton.2 rfl))
            have HNEW := hq (fun (b' : UInt8) => (show (wr.setCell ⟨g, P.length, none⟩ (.string (st (x ++ [b'])))).ownsRow w.heap.size 9 1 (.slice (some ⟨g, 0, none⟩) L.length cp) (addL L b').length (strV (addL L b')) from by
              have h1 := own_putRow hrow.o P.length (.string (st (x ++ [b'])))
              have h2 := strV_addL (L := P) (x := x) b'
              rw [← hPx] at h2
              rw [h2] at h1
              rw [addL_len hLn]
              exact h1))
            have HB3 := hq (fun (u : Value) => below_put hb.o hgB P.length u)
            have HLN := hq (fun (b' : UInt8) => addL_len (b := b') hLn)
            have HEL := hq (fun (b' : UInt8) (k' : Nat) (hk' : k < k') => addL_each (b := b') hel.o hk')
            have HNE := hq (fun (b' : UInt8) => addL_ne L b')
            have hm1 : (L.length : Int) - 1 = (P.length : Int) := by omega
            have hm2 : (P.length : Int) < (L.length : Int) := by omega
            generalize L.length = m at *
            generalize P.length = n at *
            clear hPx hLl hrow2 hcur hrow hel
            have HN2 := hq (HNEW.o b)
            have HS := hq (st_app x b)
            clear HRP HNEW HNO HN HOK HD2 HHD HBB h47 h126
            go_wp2_with fail
            go_roundw
            case rel => exact ⟨k + 1, addL L b, hkl, int_eq (by omega), by rw [HLN.o b]; omega, hq (by have h1 := HN2.o; rw [← HS.o] at h1; exact h1), HRP3, hq (fun _ => HNE.o b), hq (HEL.o b _ (by omega)), hq (HB3.o _)⟩
            case measure => simp [intOf]; omega
        · obtain rfl : k = s.length := by omega
          have hkz : ¬ (s.length : Int) < (s.length : Int) := by omega
          have hr := hrp.o
          rw [List.drop_length] at hr
          have hr2 : rpM s [] = some L := by rw [← hr]; rfl
          have hPM := HD2.o
          rw [hr2] at hPM
          unfold pendM at hPM
          simp only at hPM
          obtain ⟨a, cp, rfl⟩ := row_shapeP hrow.o
          by_cases h64 : 64 < L.length
          · have hz : (64 : Int) < (L.length : Int) := by omega
            have HV := hq (show PP (.returned (.tuple #[.slice none 0 0, .int .i64 3])) wr from HN.o 3 wr (by rw [hPM, if_pos h64]) hb.o)
            clear HNO HN HOK HD2 HHD hrow hel hrp hne hr hr2 hPM
            go_wp2_with fail
            first | exact HV.o | (go_ret2; exact HV.o)
          · have hz : ¬ (64 : Int) < (L.length : Int) := by omega
            have HV := hq (show PP (.returned (.tuple #[.slice a L.length cp, .int .i64 0])) wr from HOK.o (L, 0) a cp wr (by rw [hPM, if_neg h64]) hrow.o hb.o)
            clear HNO HN HOK HD2 HHD hrow hel hrp hne hr hr2 hPM
            go_wp2_with fail
            first | exact HV.o | (go_ret2; exact HV.o)
end Go.Proofs.YtmadgdafgkleiaaGreatDoor

