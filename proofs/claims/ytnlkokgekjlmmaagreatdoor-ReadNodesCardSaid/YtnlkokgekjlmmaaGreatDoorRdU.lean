/-
  WALK of the document's own answer for layer 9: At.
-/
import Derived.Test.YtnlkokgekjlmmaaGreatDoorRdT
import Derived.Test.YtnlkokgekjlmmaaGreatDoorRdl
import Derived.Test.YtnlkokgekjlmmaaGreatDoorPxs
namespace Go.Proofs.YtnlkokgekjlmmaaGreatDoor
open Go.RowKit
theorem kid_step {s : ByteArray} {ns : List JN} {d k : Nat} {v : Vl} {c : Nat} (h : Rv s ns d k v c) (p : Bs) :
 (∀ j, kidOf s ns k p = some j → ∃ x n, ns[k]? = some x ∧ stepM v p = ((n : Nat) : Int) ∧ x.kids[n]? = some j) ∧ (kidOf s ns k p = none → stepM v p = -1) := by
 refine ⟨fun j hj => ?_, fun hn => by unfold stepM; rw [(kid_below h p).2 hn]; rfl⟩
 cases h with
 | @leaf d k x h1 h2 h3 =>
   obtain ⟨_, _, _, _, _, hkd⟩ := h2
   unfold kidOf kidAt at hj
   rw [h1] at hj
   simp only at hj
   rw [if_neg (by omega), if_neg (by omega)] at hj
   cases hj
 | @arr d k x vs cs h1 h2 h3 h4 h5 h6 =>
   unfold kidOf kidAt at hj
   rw [h1] at hj
   simp only at hj
   rw [if_pos h2] at hj
   rw [step_five rfl]
   cases hx : indexM p with
   | none => rw [hx] at hj; cases hj
   | some n =>
     rw [hx] at hj
     have hn : n < x.kids.length := (List.getElem?_eq_some_iff.1 hj).1
     refine ⟨x, n, h1, ?_, hj⟩
     simp only [Option.isSome_some, Option.getD_some, Bool.true_and]
     rw [if_pos (decide_eq_true (by omega))]
 | @obj d k x ks vs cs h1 h2 h3 h4 h5 h6 h7 h8 h9 =>
   unfold kidOf kidAt at hj
   rw [h1] at hj
   simp only at hj
   rw [if_neg (by omega), if_pos h2, kidKs_of h3 h8] at hj
   rw [step_six rfl]
   unfold ixI
   cases hx : ixOf ks p with
   | none => rw [hx] at hj; cases hj
   | some n =>
     rw [hx] at hj
     exact ⟨x, n, h1, rfl, hj⟩
theorem node_kids (nv : List NV) (gN cN : Nat) (W : World) (hD : DocR nv gN cN W) (k : Nat) (hk : k < nv.length) :
 ∃ (ok : Option Addr) (nk ck : Nat), Hq (∀ V, Below W.heap.size W V → V.cell? ⟨gN, k * 7 + 5, none⟩ = some (.slice ok nk ck)) ∧ Hq (∀ (n q : Nat), nv[k].n.kids[n]? = some q → n < nk ∧ nk ≤ ck ∧ ck ≤ 9223372036854775807 ∧ ∃ b, ok = some ⟨b, 0, none⟩ ∧ ∀ V, Below W.heap.size W V → V.cell? ⟨b, n, none⟩ = some (.int .i64 (q : Int))) := by
 obtain ⟨ok, ck, hok, hle, hcp, hc⟩ := hD.kd k hk
 unfold maxLen at hcp
 refine ⟨ok, nv[k].n.kids.length, ck, hq (fun V h => ?_), hq (fun n q hn => ?_)⟩
 · have h1 := ((hD.grow h).node hk).2.2.2.2.2.1
   rw [hok] at h1
   exact h1
 · obtain ⟨hn', rfl⟩ := List.getElem?_eq_some_iff.1 hn
   obtain ⟨b, h1, h2⟩ := hc n hn'
   exact ⟨hn', hle, by omega, b, h1, fun V hV => (hV.cell (cell_ltD h2)).trans h2⟩
def RU8 (s : ByteArray) (gN n cN k j pb pf ll cap : Nat) (p : Bs) (vk : Vl) (sx : Int) (i : Nat) (v : Value) (_ _ : Nat) (W : World) : Prop := match i with
 | 0 => v = .agg #[.string s, .slice (some ⟨gN, 0, none⟩) n cN]
 | 1 => v = .int .i64 (k : Int)
 | 2 => IsVR vk v W
 | 3 => v = .slice (some ⟨pb, pf, none⟩) ll cap
 | 4 => v = .int .i64 (j : Int)
 | 5 => v = .pointer (some ⟨pb, pf + j, none⟩)
 | 6 => v = .string (st p)
 | _ => v = .int .i64 sx
set_option maxHeartbeats 32000000 in
set_option maxRecDepth 1000000 in
theorem rdocat_any (s : ByteArray) (nv : List NV) (gN cN : Nat) (W : World) (hs : s.size ≤ 65536) (hD : DocR nv gN cN W) (hpos : 0 < nv.length) (hR : ∀ i, i < nv.length → ∃ v c, Rv s (nv.map (·.n)) 32 i v c) (path : SRow) (hp : path.ok W) (hm : Room path.l) :
 Calls Tryz.prog 39 #[.agg #[.string s, .slice (some ⟨gN, 0, none⟩) nv.length cN], path.v] W (KidAtPost (atP s (nv.map (·.n)) path.l) W) := by
 obtain ⟨o, cap, l⟩ := path
 have hnl := hD.le
 have hnc := hD.cp
 have hnn := hD.n4
 have hlc := hp.le
 have hlm := hp.cp
 unfold maxLen at hnc hlm
 simp only at hlc hlm
 have HRI := hq (fun V (hV : Below W.heap.size W V) => rright7_any ⟨o, cap, l⟩ V (hp.grow hV) hm)
 have HNP := hq (fun k hk => node_kids nv gN cN W hD k hk)
 have HRV := hq hR
 have HND := hq (fun (k : Nat) (v : Vl) (c : Nat) (h : Rv s (nv.map (·.n)) 32 k v c) V (hV : Below W.heap.size W V) => (rdocnode_any s nv gN cN W hs hD h V hV).mono (R' := fun e W' => ∃ y : Vt, e = .returned y.v ∧ (y.Own 25 9 V.heap.size (fun _ => True) W' ∧ y.m = v) ∧ Below V.heap.size V W') (fun e W' ⟨y, h1, h2, h3, h4⟩ => ⟨y, h1, ⟨h2, h3⟩, h4⟩))
 have HRG := hq (fun (k : Nat) (v : Vl) (c : Nat) (h : Rv s (nv.map (·.n)) 32 k v c) => h.rng hs)
 have HKS := hq (fun (k : Nat) (hk : k < nv.length) (v : Vl) (c : Nat) (h : Rv s (nv.map (·.n)) 32 k v c) (p : Bs) => (show (∀ j, kidOf s (nv.map (·.n)) k p = some j → j < nv.length ∧ ∃ n : Nat, stepM v p = (n : Int) ∧ nv[k].n.kids[n]? = some j) ∧ (kidOf s (nv.map (·.n)) k p = none → stepM v p = -1) from by
  obtain ⟨h1, h2⟩ := kid_step h p
  refine ⟨fun j hj => ?_, h2⟩
  obtain ⟨x, n, h3, h4, h5⟩ := h1 j hj
  obtain ⟨_, rfl⟩ := map_at h3
  exact ⟨(hD.bd k hk).2.2.2.2 j (List.mem_of_getElem? h5), n, h4, h5⟩))
 have HST := hq (fun (p : Bs) (hp : p.length ≤ maxLen) (v : Vl) (y : Vt) V (hy : y.Ok V) (hm : y.m = v) => (show Calls Tryz.prog 77 #[y.v, .string (st p)] V (fun e W' => e = .returned (.int .i64 (stepM v p)) ∧ Below V.heap.size V W') from by
  have h := rstep_any y p V hy hp
  rw [hm] at h
  exact h))
 have HPO := hq hp
 have HP : Hq (∀ (o : Option Nat) W', atP s (nv.map (·.n)) l = o → Below W.heap.size W W' → KidAtPost (atP s (nv.map (·.n)) l) W (.returned (.tuple #[.int .i64 ((o.getD 0 : Nat) : Int), .bool o.isSome])) W') := hq (fun o W' h1 h2 => ⟨by rw [h1], h2⟩)
 have HAP : Hq (atP s (nv.map (·.n)) l = if pgoodB l = true then atM s (nv.map (·.n)) l 0 else none) := hq rfl
 have HRM : Hq (∀ x ∈ l, x.length ≤ maxLen) := hq hm
 simp only at HRI ⊢
 unfold SRow.v at HRI ⊢
 simp only at HRI ⊢
 generalize KidAtPost (atP s (nv.map (·.n)) l) W = PP at *
 generalize atP s (nv.map (·.n)) l = AP at *
 generalize nv.map (·.n) = ns at *
 have HB0 := hq (below_alloc W (.cells #[.string s, .slice (some ⟨gN, 0, none⟩) nv.length cN] 46))
 have HD0 := hq (Whole.made W 46 #[.string s, .slice (some ⟨gN, 0, none⟩) nv.length cN])
 have hn0 : ((nv.length : Int) == 0) = false := beq_eq_false_iff_ne.2 (by omega)
 clear hD hp hm hR
 go_enter Tryz.func39, Tryz.ntmps39
 go_upto_region 1 with fail
 generalize (W.alloc (.cells #[.string s, .slice (some ⟨gN, 0, none⟩) nv.length cN] 46)) = W1 at *
 obtain ⟨gd, HGD⟩ : ∃ g, Hq (W.heap.size = g) := ⟨_, hq rfl⟩
 rw [HGD.o] at HD0
 rw [HGD.o]
 go_wp2_with fail
 refine (HRI.o W1 HB0.o).mono ?_
 rintro e W2 ⟨rfl, hb2⟩
 have HB2 := hq (HB0.o.trans (hb2.mono HB0.o.size))
 have HD2 := hq (HD0.o.grow hb2)
 clear HB0 HD0 hb2 HRI
 generalize hpg : pgoodB l = pg at *
 have d0 := HD2.o.at_ 0
 have d1 := HD2.o.at_ 1
 cases pg with
 | false =>
   have HV := hq (HP.o none W2 (by rw [HAP.o]; rfl) HB2.o)
   simp only [Option.isSome_none, Option.getD_none] at HV
   clear HP HAP HNP HRV HND HRG HKS HST
   go_wp2_with fail
   first | exact HV.o | (go_ret; exact HV.o)
 | true =>
   have HAP2 : Hq (AP = atM s ns l 0) := hq HAP.o
   clear HAP hpg
   go_wp2_with fail
   go_loopw [7, 8, 9] (fun uk i _ wr => ∃ j k : Nat, j ≤ l.length ∧ i = .int .i64 (j : Int) ∧ k < nv.length ∧ uk = .int .i64 (k : Int) ∧ Hq (Below W.heap.size W wr) ∧ Hq (Whole wr gd 46 #[.string s, .slice (some ⟨gN, 0, none⟩) nv.length cN]) ∧ Hq (AP = atM s ns (l.drop j) k)) (fun _ i _ _ => l.length - (intOf i).toNat)
   case atStart => exact ⟨0, 0, Nat.zero_le _, rfl, hpos, rfl, HB2, HD2, hq (by rw [List.drop_zero]; exact HAP2.o)⟩
   case round =>
    obtain ⟨j, k, hj, rfl, hk, rfl, HBr, HDr, HA⟩ := hrel
    clear HB2 HD2 HAP2 d0 d1
    by_cases h : j < l.length
    · have hz : (j : Int) < (l.length : Int) := by omega
      obtain ⟨pb, pf, rfl, m0⟩ := strs_at HPO.o.rd HBr.o h
      simp only at m0
      obtain ⟨vk, cc, hrv⟩ := HRV.o k hk
      obtain ⟨ok, nk, ck, HN5, HKC⟩ := HNP.o k hk
      have HNDk := hq (HND.o k vk cc hrv)
      have HRGk := hq (HRG.o k vk cc hrv)
      have HKSk := hq (HKS.o k hk vk cc hrv l[j])
      have HSTk := hq (HST.o l[j] (HRM.o _ (List.getElem_mem h)) vk)
      have HA2 : Hq (AP = (kidOf s ns k l[j]).bind (atM s ns (l.drop (j + 1)))) := hq (by rw [HA.o, List.drop_eq_getElem_cons h]; rfl)
      have hkz : (k : Int) < (nv.length : Int) := by omega
      have HM0 := hq m0
      have hmlt := hq (cell_ltD m0)
      clear hrv m0 HRV HNP HND HRG HKS HST HRM HA
      generalize l[j] = p at *
      generalize kidOf s ns k p = ko at *
      generalize nv[k].n.kids = kids at *
      generalize hsx : stepM vk p = sx at *
      clear hsx
      go_upto_region 8 with fail
      refine go_flow (by kernel_rfl) [(0, 26), (1, 27), (2, 28), (3, 29), (4, 30), (5, 31), (6, 32), (7, 33), (8, 9)] [[0], [1], [2, 0, 1], [3], [4], [5, 3, 4], [6, 5, 3, 4], [7, 2, 0, 1, 6, 5, 3, 4], [8, 7, 2, 0, 1, 6, 5, 3, 4]] [] [] (RU8 s gN nv.length cN k j pb pf l.length cap p vk sx) ?A ?hA (by kernel_rfl) ?hs ?he
      case hA =>
       intro f
       simp only [putS]
       go_simp
       rfl
      case hs =>
       refine Steps.cons rfl ?_ (Steps.cons rfl ?_ (Steps.cons rfl ?_ (Steps.cons rfl ?_ (Steps.cons rfl ?_ (Steps.cons rfl ?_ (Steps.cons rfl ?_ (Steps.cons rfl ?_ (Steps.cons rfl ?_ Steps.nil))))))))
       · intro f lo hi W2 hb hd K hK
         rw [if_pos (by rfl)]
         have d0 := (HDr.o.grow hb).at_ 0
         have d1 := (HDr.o.grow hb).at_ 1
         go_simp
         exact hK _ _ (Below.refl _ _) (fun V _ _ _ _ => rfl)
       · intro f lo hi W2 hb hd K hK
         rw [if_pos (by rfl)]
         go_simp
         exact hK _ _ (Below.refl _ _) (fun V _ _ _ _ => rfl)
       · intro f lo hi W2 hb hd K hK
         rw [if_pos (by rfl)]
         have e0 : f 0 = _ := hd 0 (by decide) (by decide)
         have e1 : f 1 = _ := hd 1 (by decide) (by decide)
         clear hd
         try dsimp only at hK
         generalize f 0 = x0 at e0 hK ⊢
         generalize f 1 = x1 at e1 hK ⊢
         subst e0
         subst e1
         go_simp
         refine (HNDk.o W2 (HBr.o.trans (hb.mono HBr.o.size))).mono ?_
         rintro e w2 ⟨y, rfl, ⟨hyo, hym⟩, hb2⟩
         exact hK _ _ hb2 (fun U _ _ hbl _ => ⟨y, rfl, (own_same hyo (fun g h1 h2 => hbl g h1 h2)).ok (by rw [hym]; exact HRGk.o), hym⟩)
       · intro f lo hi W2 hb hd K hK
         rw [if_pos (by rfl)]
         go_simp
         exact hK _ _ (Below.refl _ _) (fun V _ _ _ _ => rfl)
       · intro f lo hi W2 hb hd K hK
         rw [if_pos (by rfl)]
         go_simp
         exact hK _ _ (Below.refl _ _) (fun V _ _ _ _ => rfl)
       · intro f lo hi W2 hb hd K hK
         rw [if_pos (by rfl)]
         have e3 : f 3 = _ := (hd 3 (by decide) (by decide))
         have e4 : f 4 = _ := (hd 4 (by decide) (by decide))
         clear hd
         try dsimp only at hK
         generalize f 3 = x3 at e3 hK ⊢
         generalize f 4 = x4 at e4 hK ⊢
         subst e3
         subst e4
         go_simp
         exact hK _ _ (Below.refl _ _) (fun V _ _ _ _ => rfl)
       · intro f lo hi W2 hb hd K hK
         rw [if_pos (by rfl)]
         have e5 : f 5 = _ := (hd 5 (by decide) (by decide))
         clear hd
         try dsimp only at hK
         generalize f 5 = x5 at e5 hK ⊢
         subst e5
         have m0 := (hb.cell hmlt.o).trans HM0.o
         go_simp
         exact hK _ _ (Below.refl _ _) (fun V _ _ _ _ => rfl)
       · intro f lo hi W2 hb hd K hK
         rw [if_pos (by rfl)]
         obtain ⟨y, e2, hyo, hym⟩ := hd 2 (by decide) (by decide)
         have e6 : f 6 = _ := hd 6 (by decide) (by decide)
         clear hd
         try dsimp only at hK
         generalize f 2 = x2 at e2 hK ⊢
         generalize f 6 = x6 at e6 hK ⊢
         subst e2
         subst e6
         go_simp
         refine (HSTk.o y W2 hyo hym).mono ?_
         rintro e w2 ⟨rfl, hb2⟩
         exact hK _ _ hb2 (fun _ _ _ _ _ => rfl)
       · intro f lo hi W2 hb hd K hK
         rw [if_pos (by rfl)]
         have e7 : f 7 = _ := (hd 7 (by decide) (by decide))
         clear hd
         try dsimp only at hK
         generalize f 7 = x7 at e7 hK ⊢
         subst e7
         go_simp
         exact hK _ _ (Below.refl _ _) (fun V _ _ _ _ => rfl)
      case he =>
       intro f lo hi W2 hb hR hbx hk2
       have e8 : f 8 = _ := hR 8 (by decide)
       have HB3 := hq (HBr.o.trans (hb.mono HBr.o.size))
       have HD3 := hq (HDr.o.grow hb)
       have HQ3 := hq (HKSk.o)
       clear hR hbx hk2 HBr HDr hb HM0 hmlt HNDk HRGk HSTk HKSk
       generalize f 8 = x8 at *
       subst e8
       refine wpOps_done ?_
       have d0 := HD3.o.at_ 0
       have d1 := HD3.o.at_ 1
       cases ko with
       | none =>
         have hs1 := HQ3.o.2 rfl
         subst hs1
         have HV := hq (HP.o none W2 HA2.o HB3.o)
         simp only [Option.isSome_none, Option.getD_none] at HV
         clear HP HA2 HQ3 HN5 HKC
         go_wp2_with fail
         first | exact HV.o | (go_ret; exact HV.o)
       | some q =>
         obtain ⟨hqn, n, hs1, hkn⟩ := HQ3.o.1 q rfl
         subst hs1
         obtain ⟨c1, c2, c3, b, rfl, c4⟩ := HKC.o n q hkn
         have n5 := HN5.o W2 HB3.o
         have c5 := c4 W2 HB3.o
         have b1 : decide ((n : Int) < 0) = false := decide_eq_false (by omega)
         have b2 : (n : Int) < (nk : Int) := by omega
         have HA3 : Hq (AP = atM s ns (l.drop (j + 1)) q) := HA2
         clear HP HQ3 HN5 HKC c4 hkn HA2
         go_wp2_with fail
         go_roundw
         case rel => exact ⟨j + 1, q, h, int_eq (by omega), hqn, rfl, HB3, HD3, HA3⟩
         case measure => (try simp [intOf]); omega
    · have hz : ¬ (j : Int) < (l.length : Int) := by omega
      have HV := hq (HP.o (some k) wr (by rw [HA.o, List.drop_eq_nil_of_le (by omega)]; rfl) HBr.o)
      simp only [Option.isSome_some, Option.getD_some] at HV
      clear HP HA HNP HRM HRV HND HRG HKS HST
      go_wp2_with fail
      first | exact HV.o | (go_ret; exact HV.o)
end Go.Proofs.YtnlkokgekjlmmaaGreatDoor
