/-
  WALK of reading: read.below.
  WALK of reading: read.At.
-/
import Derived.Test.YtnlkokgekjlmmaaGreatDoorRde
import Derived.Test.YtnlkokgekjlmmaaGreatDoorPx1
import Derived.Test.YtnlkokgekjlmmaaGreatDoorVrC
namespace Go.Proofs.YtnlkokgekjlmmaaGreatDoor
open Go.RowKit
def kidAt (kd : Nat) (ks : List Bs) (kids : List Nat) (p : Bs) : Option Nat :=
 if kd = 5 then (indexM p).bind (fun n => kids[n]?) else if kd = 6 then (ixOf ks p).bind (fun n => kids[n]?) else none
def KidAtPost (o : Option Nat) (W : World) (e : Ending) (W' : World) : Prop := e = .returned (.tuple #[.int .i64 ((o.getD 0 : Nat) : Int), .bool o.isSome]) ∧ Below W.heap.size W W'
def RLI (s : ByteArray) (gn gN n cN : Nat) (b kl ck j kid : Nat) (name : Bs) (i : Nat) (v : Value) (_ _ : Nat) (_ : World) : Prop := match i with
 | 0 => v = .agg #[.string s, .slice (some ⟨gN, 0, none⟩) n cN]
 | 1 => v = .pointer (some ⟨gn, 5, none⟩)
 | 2 => v = .slice (some ⟨b, 0, none⟩) kl ck
 | 3 => v = .int .i64 (j : Int)
 | 4 => v = .pointer (some ⟨b, j, none⟩)
 | 5 => v = .int .i64 (kid : Int)
 | 6 => v = .tuple #[.string (st name), .bool true]
 | 7 => v = .tuple #[.string (st name), .bool true]
 | 8 => v = .string (st name)
 | 9 => v = .bool true
 | 10 => v = .string (st name)
 | 11 => v = .bool true
 | _ => True
set_option maxHeartbeats 32000000 in
set_option maxRecDepth 1000000 in
theorem rdbelow_any (s : ByteArray) (nv : List NV) (gN cN : Nat) (W : World) (hE : Env W) (hs : s.size ≤ 65536) (hD : DocR nv gN cN W) (kd na nb ka kb : Nat) (kids : List Nat) (ok : Option Addr) (ck : Nat) (po : Option Addr) (pn pc : Nat) (ks : List Bs)
 (_hk6' : kd ≤ 6) (_hle : kids.length ≤ ck) (_hcp : ck ≤ maxLen) (hn4 : kids.length ≤ 4096) (hcell : ∀ q (hq : q < kids.length), ∃ b, ok = some ⟨b, 0, none⟩ ∧ W.cell? ⟨b, q, none⟩ = some (.int .i64 (kids[q] : Int)))
 (hlt : ∀ q (hq : q < kids.length), kids[q] < nv.length) (hkl : kd = 6 → ks.length = kids.length ∧ ∀ i (hi : i < kids.length) (hk : kids[i] < nv.length), StrOk s nv[kids[i]].n.ka nv[kids[i]].n.kb ∧ ks.getD i [] = keyTx s nv[kids[i]].n.ka nv[kids[i]].n.kb)
 (step : Bs) (hst : step.length ≤ maxLen) :
 Calls Tryz.prog 75 #[.agg #[.string s, .slice (some ⟨gN, 0, none⟩) nv.length cN], .agg #[.int .i64 (kd : Int), .int .i64 (na : Int), .int .i64 (nb : Int), .int .i64 (ka : Int), .int .i64 (kb : Int), .slice ok kids.length ck, .slice po pn pc], .string (st step)] W (KidAtPost (kidAt kd ks kids step) W) := by
 have hnl := hD.le
 have hnc := hD.cp
 have hnn := hD.n4
 unfold maxLen at _hcp hnc
 have HIX := hq (fun V => index_step (st step) V (by rw [st_size]; exact hst))
 rw [st_list] at HIX
 have HKY := hq (fun (k : Nat) (hk : k < nv.length) (hso : StrOk s nv[k].n.ka nv[k].n.kb) V (h : Below W.heap.size W V) => rdkey_any s nv gN cN k V (hE.grow h) hs (hD.grow h) hk hso)
 have HKC := hq (fun q (hq' : q < kids.length) V (h : Below W.heap.size W V) => (show ∃ b, ok = some ⟨b, 0, none⟩ ∧ V.cell? ⟨b, q, none⟩ = some (.int .i64 (kids[q] : Int)) from by
  obtain ⟨b, h1, h2⟩ := hcell q hq'
  exact ⟨b, h1, (h.cell (cell_ltD h2)).trans h2⟩))
 have HP : Hq (∀ (o : Option Nat) W', kidAt kd ks kids step = o → Below W.heap.size W W' → KidAtPost (kidAt kd ks kids step) W (.returned (.tuple #[.int .i64 ((o.getD 0 : Nat) : Int), .bool o.isSome])) W') := hq (fun o W' h1 h2 => ⟨by rw [h1], h2⟩)
 have HKA : Hq (kidAt kd ks kids step = if kd = 5 then (indexM step).bind (fun n => kids[n]?) else if kd = 6 then (ixOf ks step).bind (fun n => kids[n]?) else none) := hq rfl
 generalize KidAtPost (kidAt kd ks kids step) W = PP at *
 generalize kidAt kd ks kids step = KA at *
 have HB0 := hq (below_alloc W (.cells #[.string s, .slice (some ⟨gN, 0, none⟩) nv.length cN] 46))
 have HD0 := hq (Whole.made W 46 #[.string s, .slice (some ⟨gN, 0, none⟩) nv.length cN])
 have hz0 : Hq ((W.alloc (.cells #[.string s, .slice (some ⟨gN, 0, none⟩) nv.length cN] 46)).heap.size = W.heap.size + 1) := hq (World.size_alloc _ _)
 clear hE hD hcell
 go_enter Tryz.func75, Tryz.ntmps75
 go_upto_region 1 with fail
 generalize (W.alloc (.cells #[.string s, .slice (some ⟨gN, 0, none⟩) nv.length cN] 46)) = W1 at *
 have HB1 := hq (HB0.o.alloc HB0.o.size (.cells #[.int .i64 (kd : Int), .int .i64 (na : Int), .int .i64 (nb : Int), .int .i64 (ka : Int), .int .i64 (kb : Int), .slice ok kids.length ck, .slice po pn pc] 63))
 have HD1 := hq (HD0.o.alloc (.cells #[.int .i64 (kd : Int), .int .i64 (na : Int), .int .i64 (nb : Int), .int .i64 (ka : Int), .int .i64 (kb : Int), .slice ok kids.length ck, .slice po pn pc] 63))
 have HN1 := hq (Whole.made W1 63 #[.int .i64 (kd : Int), .int .i64 (na : Int), .int .i64 (nb : Int), .int .i64 (ka : Int), .int .i64 (kb : Int), .slice ok kids.length ck, .slice po pn pc])
 rw [hz0.o] at HN1
 generalize (W1.alloc (.cells #[.int .i64 (kd : Int), .int .i64 (na : Int), .int .i64 (nb : Int), .int .i64 (ka : Int), .int .i64 (kb : Int), .slice ok kids.length ck, .slice po pn pc] 63)) = V0 at *
 obtain ⟨gn, HGN⟩ : ∃ g, Hq (W.heap.size + 1 = g) := ⟨_, hq rfl⟩
 rw [HGN.o] at HN1
 rw [HGN.o]
 obtain ⟨gd, HGD⟩ : ∃ g, Hq (W.heap.size = g) := ⟨_, hq rfl⟩
 rw [HGD.o] at HD1
 rw [HGD.o]
 clear HD0 HB0 hz0 HGN
 obtain ⟨q0, q1, q2, q3, q4, q5, q6⟩ := seven_cells HN1.o
 by_cases h5 : kd = 5
 · have e5 : ((kd : Int) == 5) = true := by rw [h5]; rfl
   have HKA2 : Hq (KA = (indexM step).bind (fun n => kids[n]?)) := hq (by rw [HKA.o, if_pos h5])
   clear HKA h5 hkl HKY
   go_wp2_with fail
   refine (HIX.o V0).mono ?_
   rintro e W2 ⟨rfl, hb2⟩
   have HB2 := hq (HB1.o.trans (hb2.mono HB1.o.size))
   have HN2 := hq (HN1.o.grow hb2)
   clear q0 q1 q2 q3 q4 q5 q6
   obtain ⟨q0, q1, q2, q3, q4, q5, q6⟩ := seven_cells HN2.o
   generalize indexM step = im at *
   clear HIX hb2
   cases im with
   | none =>
     have HV := hq (HP.o none W2 HKA2.o HB2.o)
     clear HP HKA2 HKC
     simp only [Option.isSome_none, Option.getD_none] at *
     go_wp2_with fail
     first | exact HV.o | (go_ret; exact HV.o)
   | some n =>
     simp only [Option.isSome_some, Option.getD_some] at *
     by_cases hn : n < kids.length
     · have hz : (n : Int) < (kids.length : Int) := by omega
       have d1 : decide ((n : Int) < (kids.length : Int)) = true := decide_eq_true hz
       obtain ⟨b, rfl, k0⟩ := HKC.o n hn W2 HB2.o
       have HV := hq (HP.o (some kids[n]) W2 (by rw [HKA2.o]; exact List.getElem?_eq_getElem hn) HB2.o)
       generalize kids[n] = kid at *
       clear HP HKA2 HKC
       go_wp2_with fail
       first | exact HV.o | (go_ret; exact HV.o)
     · have hz : ¬ (n : Int) < (kids.length : Int) := by omega
       have d1 : decide ((n : Int) < (kids.length : Int)) = false := decide_eq_false hz
       have HV := hq (HP.o none W2 (by rw [HKA2.o]; exact List.getElem?_eq_none (by omega)) HB2.o)
       clear HP HKA2 HKC
       go_wp2_with fail
       first | exact HV.o | (go_ret; exact HV.o)
 · have e5 : ((kd : Int) == 5) = false := beq_eq_false_iff_ne.2 (by omega)
   by_cases h6 : kd = 6
   · have e6 : ((kd : Int) == 6) = true := by rw [h6]; rfl
     have HKA2 : Hq (KA = (ixOf ks step).bind (fun n => kids[n]?)) := hq (by rw [HKA.o, if_neg h5, if_pos h6])
     obtain ⟨hkl1, hkl2⟩ := hkl h6
     have HKE := hq (fun (j : Nat) (h : j < kids.length) => (show Hq (∀ U, Below W.heap.size W U → Calls Tryz.prog 130 #[.agg #[.string s, .slice (some ⟨gN, 0, none⟩) nv.length cN], .int .i64 (kids[j] : Int)] U fun e W' => e = .returned (.tuple #[.string (st (ks.getD j [])), .bool true]) ∧ Below U.heap.size U W') from hq (fun U hU => by
      obtain ⟨a3, a4⟩ := hkl2 j h (hlt j h)
      rw [a4]
      exact HKY.o kids[j] (hlt j h) a3 U hU)))
     clear HKA h5 h6 hkl HKY hkl2 HIX
     go_wp2_with fail
     go_loopw [10, 11, 12, 40] (fun _ _ _ i wr => ∃ j : Nat, j ≤ kids.length ∧ i = .int .i64 (j : Int) ∧ Hq (Below W.heap.size W wr) ∧ Hq (Whole wr gd 46 #[.string s, .slice (some ⟨gN, 0, none⟩) nv.length cN]) ∧ Hq (Whole wr gn 63 #[.int .i64 (kd : Int), .int .i64 (na : Int), .int .i64 (nb : Int), .int .i64 (ka : Int), .int .i64 (kb : Int), .slice ok kids.length ck, .slice po pn pc]) ∧ Hq (∀ q (hq1 : q < ks.length), q < j → ks[q] ≠ step)) (fun _ _ _ i _ => kids.length - (intOf i).toNat)
     case atStart => exact ⟨0, Nat.zero_le _, rfl, HB1, HD1, HN1, hq (fun q _ h => absurd h (Nat.not_lt_zero _))⟩
     case round =>
      obtain ⟨j, hj, rfl, HBr, HDr, HNr, hno⟩ := hrel
      clear q0 q1 q2 q3 q4 q5 q6 HB1 HD1 HN1
      obtain ⟨q0, q1, q2, q3, q4, q5, q6⟩ := seven_cells HNr.o
      by_cases h : j < kids.length
      · have hz : (j : Int) < (kids.length : Int) := by omega
        have HK0 := hq (fun V hV => HKC.o j h V hV)
        obtain ⟨b, hb0, _⟩ := HKC.o j h W (Below.refl _ _)
        have HKQ := HKE.o j h
        have hjs : j < ks.length := by omega
        have HYES : Hq (ks[j] = step → KA = some kids[j]) := hq (fun e => by
         rw [HKA2.o, ixOf_first hjs e (fun q hq1 => hno.o q (by omega) hq1)]
         exact List.getElem?_eq_getElem h)
        have HNO2 : Hq (ks[j] ≠ step → ∀ q (hq1 : q < ks.length), q < j + 1 → ks[q] ≠ step) := hq (fun e q h1 h2 => by
         by_cases hqj : q = j
         · subst hqj; exact e
         · exact hno.o q h1 (by omega))
        rw [getD_at _ _ hjs] at HKQ
        generalize kids[j] = kid at *
        generalize ks[j] = name at *
        have HK1 : Hq (∀ V, Below W.heap.size W V → V.cell? ⟨b, j, none⟩ = some (.int .i64 (kid : Int))) := hq (fun V hV => by
         obtain ⟨b', h1, h2⟩ := HK0.o V hV
         rw [hb0] at h1
         cases h1
         exact h2)
        subst hb0
        clear HK0 HKC HKE hno HKA2 hlt hkl1
        go_upto_region 10 with fail
        refine go_flow (by kernel_rfl) [(0, 44), (1, 45), (2, 46), (3, 47), (4, 48), (5, 49), (6, 50), (7, 43), (8, 51), (9, 52), (10, 11), (11, 12)] [[0], [1], [2, 1], [3], [4, 2, 1, 3], [5, 4, 2, 1, 3], [6, 0, 5, 4, 2, 1, 3], [7, 6, 0, 5, 4, 2, 1, 3], [8, 7, 6, 0, 5, 4, 2, 1, 3], [9, 7, 6, 0, 5, 4, 2, 1, 3], [10, 8, 7, 6, 0, 5, 4, 2, 1, 3], [11, 9, 7, 6, 0, 5, 4, 2, 1, 3]] [] [] (RLI s gn gN nv.length cN b kids.length ck j kid name) ?A ?hA (by kernel_rfl) ?hs ?he
        case hA =>
         intro f
         simp only [putS]
         go_simp
         rfl
        case hs =>
         refine Steps.cons rfl ?_ (Steps.cons rfl ?_ (Steps.cons rfl ?_ (Steps.cons rfl ?_ (Steps.cons rfl ?_ (Steps.cons rfl ?_ (Steps.cons rfl ?_ (Steps.cons rfl ?_ (Steps.cons rfl ?_ (Steps.cons rfl ?_ (Steps.cons rfl ?_ (Steps.cons rfl ?_ Steps.nil)))))))))))
         · intro f lo hi W2 hb hd K hK
           rw [if_pos (by rfl)]
           have r0 := (HDr.o.grow hb).at_ 0
           have r1 := (HDr.o.grow hb).at_ 1
           go_simp
           exact hK _ _ (Below.refl _ _) (fun V _ _ _ _ => rfl)
         · intro f lo hi W2 hb hd K hK
           rw [if_pos (by rfl)]
           go_simp
           exact hK _ _ (Below.refl _ _) (fun V _ _ _ _ => rfl)
         · intro f lo hi W2 hb hd K hK
           rw [if_pos (by rfl)]
           have e1 : f 1 = _ := (hd 1 (by decide) (by decide))
           clear hd
           try dsimp only at hK
           generalize f 1 = x1 at e1 hK ⊢
           subst e1
           obtain ⟨q0, q1, q2, q3, q4, q5, q6⟩ := seven_cells (HNr.o.grow hb)
           go_simp
           exact hK _ _ (Below.refl _ _) (fun V _ _ _ _ => rfl)
         · intro f lo hi W2 hb hd K hK
           rw [if_pos (by rfl)]
           go_simp
           exact hK _ _ (Below.refl _ _) (fun V _ _ _ _ => rfl)
         · intro f lo hi W2 hb hd K hK
           rw [if_pos (by rfl)]
           have e2 : f 2 = _ := (hd 2 (by decide) (by decide))
           have e3 : f 3 = _ := (hd 3 (by decide) (by decide))
           clear hd
           try dsimp only at hK
           generalize f 2 = x2 at e2 hK ⊢
           generalize f 3 = x3 at e3 hK ⊢
           subst e2
           subst e3
           go_simp
           exact hK _ _ (Below.refl _ _) (fun V _ _ _ _ => rfl)
         · intro f lo hi W2 hb hd K hK
           rw [if_pos (by rfl)]
           have e4 : f 4 = _ := (hd 4 (by decide) (by decide))
           clear hd
           try dsimp only at hK
           generalize f 4 = x4 at e4 hK ⊢
           subst e4
           have k1 := HK1.o W2 (HBr.o.trans (hb.mono HBr.o.size))
           go_simp
           exact hK _ _ (Below.refl _ _) (fun V _ _ _ _ => rfl)
         · intro f lo hi W2 hb hd K hK
           rw [if_pos (by rfl)]
           have e0 : f 0 = _ := (hd 0 (by decide) (by decide))
           have e5 : f 5 = _ := (hd 5 (by decide) (by decide))
           clear hd
           try dsimp only at hK
           generalize f 0 = x0 at e0 hK ⊢
           generalize f 5 = x5 at e5 hK ⊢
           subst e0
           subst e5
           go_simp
           refine (HKQ.o W2 (HBr.o.trans (hb.mono HBr.o.size))).mono ?_
           rintro e w2 ⟨rfl, hb2⟩
           exact hK _ _ hb2 (fun V _ _ _ _ => rfl)
         · intro f lo hi W2 hb hd K hK
           rw [if_pos (by rfl)]
           have e6 : f 6 = _ := (hd 6 (by decide) (by decide))
           clear hd
           try dsimp only at hK
           generalize f 6 = x6 at e6 hK ⊢
           subst e6
           go_simp
           exact hK _ _ (Below.refl _ _) (fun V _ _ _ _ => rfl)
         · intro f lo hi W2 hb hd K hK
           rw [if_pos (by rfl)]
           have e7 : f 7 = _ := (hd 7 (by decide) (by decide))
           clear hd
           try dsimp only at hK
           generalize f 7 = x7 at e7 hK ⊢
           subst e7
           go_simp
           exact hK _ _ (Below.refl _ _) (fun V _ _ _ _ => rfl)
         · intro f lo hi W2 hb hd K hK
           rw [if_pos (by rfl)]
           have e7 : f 7 = _ := (hd 7 (by decide) (by decide))
           clear hd
           try dsimp only at hK
           generalize f 7 = x7 at e7 hK ⊢
           subst e7
           go_simp
           exact hK _ _ (Below.refl _ _) (fun V _ _ _ _ => rfl)
         · intro f lo hi W2 hb hd K hK
           rw [if_pos (by rfl)]
           have e8 : f 8 = _ := (hd 8 (by decide) (by decide))
           clear hd
           try dsimp only at hK
           generalize f 8 = x8 at e8 hK ⊢
           subst e8
           go_simp
           exact hK _ _ (Below.refl _ _) (fun V _ _ _ _ => rfl)
         · intro f lo hi W2 hb hd K hK
           rw [if_pos (by rfl)]
           have e9 : f 9 = _ := (hd 9 (by decide) (by decide))
           clear hd
           try dsimp only at hK
           generalize f 9 = x9 at e9 hK ⊢
           subst e9
           go_simp
           exact hK _ _ (Below.refl _ _) (fun V _ _ _ _ => rfl)
        case he =>
         intro f lo hi W2 hb hR hbx hk
         have e10 : f 10 = _ := hR 10 (by decide)
         have e11 : f 11 = _ := hR 11 (by decide)
         clear hR hbx hk
         have HB2 := hq (HBr.o.trans (hb.mono HBr.o.size))
         have HN2 := hq (HNr.o.grow hb)
         have HD2 := hq (HDr.o.grow hb)
         have k0 := HK1.o W2 HB2.o
         clear HBr HNr HDr hb q0 q1 q2 q3 q4 q5 q6 HK1
         generalize f 10 = x10 at *
         generalize f 11 = x11 at *
         subst e10
         subst e11
         refine wpOps_done ?_
         obtain ⟨q0, q1, q2, q3, q4, q5, q6⟩ := seven_cells HN2.o
         by_cases hk : name = step
         · have e7 : (name == step) = true := beq_iff_eq.2 hk
           have HV := hq (HP.o (some kid) W2 (HYES.o hk) HB2.o)
           simp only [Option.isSome_some, Option.getD_some] at HV
           clear HYES HNO2 HP hk
           go_wp2_with fail
           first | exact HV.o | (go_ret; exact HV.o)
         · have e7 : (name == step) = false := beq_eq_false_iff_ne.2 hk
           have HN3 := hq (HNO2.o hk)
           clear HYES HNO2 HP hk
           go_wp2_with fail
           go_roundw
           case rel => exact ⟨j + 1, h, int_eq (by omega), HB2, HD2, HN2, HN3⟩
           case measure => (try simp [intOf]); omega
      · have hz : ¬ (j : Int) < (kids.length : Int) := by omega
        have HV := hq (HP.o none wr (by
         rw [HKA2.o]
         have : ixOf ks step = none := by
          cases hx : ixOf ks step with
          | none => rfl
          | some i =>
            obtain ⟨hi, h1, _⟩ := ixOf_some hx
            exact absurd h1 (hno.o i hi (by omega))
         rw [this]; rfl) HBr.o)
        simp only [Option.isSome_none, Option.getD_none] at HV
        clear HP HKA2 HKC HKE hno
        go_wp2_with fail
        first | exact HV.o | (go_ret; exact HV.o)
   · have e6 : ((kd : Int) == 6) = false := beq_eq_false_iff_ne.2 (by omega)
     have HV := hq (HP.o none V0 (by rw [HKA.o, if_neg h5, if_neg h6]) HB1.o)
     clear HP HKA HKC HKY HIX hkl h5 h6
     simp only [Option.isSome_none, Option.getD_none] at *
     go_wp2_with fail
     first | exact HV.o | (go_ret; exact HV.o)
def kidKs (s : ByteArray) (ns : List JN) (kids : List Nat) : List Bs := kids.map fun j => match ns[j]? with | some y => keyTx s y.ka y.kb | none => []
def kidOf (s : ByteArray) (ns : List JN) (k : Nat) (p : Bs) : Option Nat := match ns[k]? with
 | none => none
 | some x => kidAt x.kd (kidKs s ns x.kids) x.kids p
def atM (s : ByteArray) (ns : List JN) : List Bs → Nat → Option Nat
 | [], k => some k
 | p :: r, k => (kidOf s ns k p).bind (atM s ns r)
def atP (s : ByteArray) (ns : List JN) (path : List Bs) : Option Nat := if pgoodB path = true then atM s ns path 0 else none
theorem kidAt_mem {kd : Nat} {ks : List Bs} {kids : List Nat} {p : Bs} {j : Nat} (h : kidAt kd ks kids p = some j) : j ∈ kids := by
 unfold kidAt at h
 have key : ∀ o : Option Nat, o.bind (fun n => kids[n]?) = some j → j ∈ kids := fun o ho => by
  cases o with
  | none => cases ho
  | some n => exact List.mem_of_getElem? ho
 split at h
 · exact key _ h
 · split at h
   · exact key _ h
   · cases h
theorem kids_key {s : ByteArray} {nv : List NV} {kids : List Nat} {i : Nat} (hi : i < kids.length) (hk : kids[i] < nv.length) : (kidKs s (nv.map (·.n)) kids).getD i [] = keyTx s nv[kids[i]].n.ka nv[kids[i]].n.kb := by
 unfold kidKs
 rw [List.getD_eq_getElem?_getD, List.getElem?_map, List.getElem?_eq_getElem hi, Option.map_some, Option.getD_some, List.getElem?_map, List.getElem?_eq_getElem hk]
 rfl
theorem node_parts (s : ByteArray) (nv : List NV) (gN cN : Nat) (W : World) (hE : Env W) (hs : s.size ≤ 65536) (hD : DocR nv gN cN W) (hR : ∀ i, i < nv.length → ∃ v c, Rv s (nv.map (·.n)) 32 i v c) (k : Nat) (hk : k < nv.length) :
 ∃ (kd na nb ka kb nk : Nat) (ok : Option Addr) (ck : Nat) (po : Option Addr) (pn pc : Nat), Hq (∀ V, Below W.heap.size W V → V.cell? ⟨gN, k * 7, none⟩ = some (.int .i64 (kd : Int)) ∧ V.cell? ⟨gN, k * 7 + 1, none⟩ = some (.int .i64 (na : Int)) ∧ V.cell? ⟨gN, k * 7 + 2, none⟩ = some (.int .i64 (nb : Int)) ∧ V.cell? ⟨gN, k * 7 + 3, none⟩ = some (.int .i64 (ka : Int)) ∧ V.cell? ⟨gN, k * 7 + 4, none⟩ = some (.int .i64 (kb : Int)) ∧ V.cell? ⟨gN, k * 7 + 5, none⟩ = some (.slice ok nk ck) ∧ V.cell? ⟨gN, k * 7 + 6, none⟩ = some (.slice po pn pc)) ∧
   Hq (∀ p : Bs, p.length ≤ maxLen → ∀ V, Below W.heap.size W V → Calls Tryz.prog 75 #[.agg #[.string s, .slice (some ⟨gN, 0, none⟩) nv.length cN], .agg #[.int .i64 (kd : Int), .int .i64 (na : Int), .int .i64 (nb : Int), .int .i64 (ka : Int), .int .i64 (kb : Int), .slice ok nk ck, .slice po pn pc], .string (st p)] V (KidAtPost (kidOf s (nv.map (·.n)) k p) V)) := by
 obtain ⟨hbk, hbd, hbb, hba, hbl⟩ := hD.bd k hk
 obtain ⟨ok, ck, hok, hkle, hkcp, hkc⟩ := hD.kd k hk
 obtain ⟨po, pn, pc, hpo⟩ := hD.pd k hk
 refine ⟨nv[k].n.kd, nv[k].n.a, nv[k].n.b, nv[k].n.ka, nv[k].n.kb, nv[k].n.kids.length, ok, ck, po, pn, pc, hq (fun V h => ?_), hq (fun p hp V hV => ?_)⟩
 · have h1 := (hD.grow h).node hk
   rw [hok, hpo] at h1
   exact h1
 · have hko : kidOf s (nv.map (·.n)) k p = kidAt nv[k].n.kd (kidKs s (nv.map (·.n)) nv[k].n.kids) nv[k].n.kids p := by
    unfold kidOf
    rw [List.getElem?_map, List.getElem?_eq_getElem hk]
    rfl
   rw [hko]
   refine rdbelow_any s nv gN cN V (hE.grow hV) hs (hD.grow hV) nv[k].n.kd nv[k].n.a nv[k].n.b nv[k].n.ka nv[k].n.kb nv[k].n.kids ok ck po pn pc _ hbd hkle hkcp hbk (fun q hq' => ?_) (fun q hq' => hbl _ (List.getElem_mem hq')) (fun h6 => ⟨by unfold kidKs; rw [List.length_map], fun i hi hki => ⟨?_, kids_key hi hki⟩⟩) p hp
   · obtain ⟨b, h1, h2⟩ := hkc q hq'
     exact ⟨b, h1, (hV.cell (cell_ltD h2)).trans h2⟩
   · obtain ⟨v, c, hr⟩ := hR k hk
     cases hr with
     | leaf g1 g2 g3 =>
       obtain ⟨_, rfl⟩ := map_at g1
       obtain ⟨_, _, _, _, _, h⟩ := g2
       omega
     | arr g1 g2 =>
       obtain ⟨_, rfl⟩ := map_at g1
       omega
     | obj g1 g2 g3 g4 g5 g6 g7 g8 g9 =>
       obtain ⟨_, rfl⟩ := map_at g1
       obtain ⟨y, hy1, hy2, _⟩ := g8 i hi
       rw [getD_at _ _ hi] at hy1
       obtain ⟨_, rfl⟩ := map_at hy1
       exact hy2
def RLJ (s : ByteArray) (gd gN n cN k kd na nb ka kb nk : Nat) (ok : Option Addr) (ck : Nat) (po : Option Addr) (pn pc : Nat) (p : Bs) (o : Option Nat) (i : Nat) (v : Value) (_ _ : Nat) (_ : World) : Prop := match i with
 | 0 => v = .agg #[.string s, .slice (some ⟨gN, 0, none⟩) n cN]
 | 1 => v = .pointer (some ⟨gd, 1, none⟩)
 | 2 => v = .slice (some ⟨gN, 0, none⟩) n cN
 | 3 => v = .int .i64 (k : Int)
 | 4 => v = .pointer (some ⟨gN, k * 7, none⟩)
 | 5 => v = .agg #[.int .i64 (kd : Int), .int .i64 (na : Int), .int .i64 (nb : Int), .int .i64 (ka : Int), .int .i64 (kb : Int), .slice ok nk ck, .slice po pn pc]
 | 6 => v = .string (st p)
 | 7 => v = .tuple #[.int .i64 ((o.getD 0 : Nat) : Int), .bool o.isSome]
 | 8 => v = .tuple #[.int .i64 ((o.getD 0 : Nat) : Int), .bool o.isSome]
 | 9 => v = .int .i64 ((o.getD 0 : Nat) : Int)
 | 10 => v = .bool o.isSome
 | 11 => v = .int .i64 ((o.getD 0 : Nat) : Int)
 | 12 => v = .bool o.isSome
 | _ => True
set_option maxHeartbeats 32000000 in
set_option maxRecDepth 1000000 in
theorem readAt_any (s : ByteArray) (nv : List NV) (gN cN : Nat) (W : World) (hE : Env W) (hs : s.size ≤ 65536) (hD : DocR nv gN cN W) (hpos : 0 < nv.length) (hR : ∀ i, i < nv.length → ∃ v c, Rv s (nv.map (·.n)) 32 i v c) (path : SRow) (hp : path.ok W) (hm : Room path.l) :
 Calls Tryz.prog 38 #[.agg #[.string s, .slice (some ⟨gN, 0, none⟩) nv.length cN], path.v] W (KidAtPost (atP s (nv.map (·.n)) path.l) W) := by
 obtain ⟨o, cap, l⟩ := path
 have hnl := hD.le
 have hnc := hD.cp
 have hnn := hD.n4
 have hlc := hp.le
 have hlm := hp.cp
 unfold maxLen at hnc hlm
 simp only at hlc hlm
 have HRI := hq (fun V (hV : Below W.heap.size W V) => pright_any ⟨o, cap, l⟩ V (hE.grow hV).tab (hp.grow hV) hm)
 have HNP := hq (fun k hk => node_parts s nv gN cN W hE hs hD hR k hk)
 have HPO := hq hp
 have HKL : Hq (∀ k p q, kidOf s (nv.map (·.n)) k p = some q → k < nv.length → q < nv.length) := hq (fun k p q h hk => by
  unfold kidOf at h
  rw [List.getElem?_map, List.getElem?_eq_getElem hk] at h
  exact (hD.bd k hk).2.2.2.2 q (kidAt_mem h))
 have HP : Hq (∀ (o : Option Nat) W', atP s (nv.map (·.n)) l = o → Below W.heap.size W W' → KidAtPost (atP s (nv.map (·.n)) l) W (.returned (.tuple #[.int .i64 ((o.getD 0 : Nat) : Int), .bool o.isSome])) W') := hq (fun o W' h1 h2 => ⟨by rw [h1], h2⟩)
 have HAP : Hq (atP s (nv.map (·.n)) l = if pgoodB l = true then atM s (nv.map (·.n)) l 0 else none) := hq rfl
 have HRM : Hq (∀ x ∈ l, x.length ≤ maxLen) := hq hm
 simp only at HRI ⊢
 unfold SRow.v at HRI ⊢
 simp only at HRI ⊢
 generalize KidAtPost (atP s (nv.map (·.n)) l) W = PP at *
 generalize atP s (nv.map (·.n)) l = AP at *
 generalize nv.map (·.n) = ns at *
 have HB0 := hq (below_alloc W (.cells #[.string s, .slice (some ⟨gN, 0, none⟩) nv.length cN] 46))
 have HD0 := hq (Whole.made W 46 #[.string s, .slice (some ⟨gN, 0, none⟩) nv.length cN])
 have hn0 : ((nv.length : Int) == 0) = false := beq_eq_false_iff_ne.2 (by omega)
 clear hE hD hp hm
 go_enter Tryz.func38, Tryz.ntmps38
 go_upto_region 1 with fail
 generalize (W.alloc (.cells #[.string s, .slice (some ⟨gN, 0, none⟩) nv.length cN] 46)) = W1 at *
 obtain ⟨gd, HGD⟩ : ∃ g, Hq (W.heap.size = g) := ⟨_, hq rfl⟩
 rw [HGD.o] at HD0
 rw [HGD.o]
 have d0 := HD0.o.at_ 0
 have d1 := HD0.o.at_ 1
 go_wp2_with fail
 refine (HRI.o W1 HB0.o).mono ?_
 rintro e W2 ⟨rfl, hb2⟩
 have HB2 := hq (HB0.o.trans (hb2.mono HB0.o.size))
 have HD2 := hq (HD0.o.grow hb2)
 clear HB0 HD0 hb2 HRI d0 d1
 generalize hpg : pgoodB l = pg at *
 cases pg with
 | false =>
   have HV := hq (HP.o none W2 (by rw [HAP.o]; rfl) HB2.o)
   simp only [Option.isSome_none, Option.getD_none] at HV
   clear HP HAP HNP HKL
   go_wp2_with fail
   first | exact HV.o | (go_ret; exact HV.o)
 | true =>
   have HAP2 : Hq (AP = atM s ns l 0) := hq HAP.o
   clear HAP hpg
   go_wp2_with fail
   go_loopw [6, 8, 9, 10, 22] (fun uk _ _ _ i wr => ∃ j k : Nat, j ≤ l.length ∧ i = .int .i64 (j : Int) ∧ k < nv.length ∧ uk = .int .i64 (k : Int) ∧ Hq (Below W.heap.size W wr) ∧ Hq (Whole wr gd 46 #[.string s, .slice (some ⟨gN, 0, none⟩) nv.length cN]) ∧ Hq (AP = atM s ns (l.drop j) k)) (fun _ _ _ _ i _ => l.length - (intOf i).toNat)
   case atStart => exact ⟨0, 0, Nat.zero_le _, rfl, hpos, rfl, HB2, HD2, hq (by rw [List.drop_zero]; exact HAP2.o)⟩
   case round =>
    obtain ⟨j, k, hj, rfl, hk, rfl, HBr, HDr, HA⟩ := hrel
    clear HB2 HD2 HAP2
    by_cases h : j < l.length
    · have hz : (j : Int) < (l.length : Int) := by omega
      obtain ⟨pb, pf, rfl, m0⟩ := strs_at HPO.o.rd HBr.o h
      simp only at m0
      obtain ⟨kd, na, nb, ka, kb, nk, ok, ck, po, pn, pc, HND, HBL⟩ := HNP.o k hk
      have HCL := hq (HBL.o l[j] (HRM.o _ (List.getElem_mem h)))
      have HA2 : Hq (AP = (kidOf s ns k l[j]).bind (atM s ns (l.drop (j + 1)))) := hq (by rw [HA.o, List.drop_eq_getElem_cons h]; rfl)
      have HKQ := hq (HKL.o k l[j])
      have hkz : (k : Int) < (nv.length : Int) := by omega
      generalize l[j] = p at *
      generalize kidOf s ns k p = ko at *
      clear HBL HA HNP HKL HRM
      go_upto_region 7 with fail
      refine go_flow (by kernel_rfl) [(0, 27), (1, 28), (2, 29), (3, 30), (4, 31), (5, 32), (6, 33), (7, 34), (8, 26), (9, 35), (10, 36), (11, 9), (12, 10)] [[0], [1], [2, 1], [3], [4, 2, 1, 3], [5, 4, 2, 1, 3], [6], [7, 0, 5, 4, 2, 1, 3, 6], [8, 7, 0, 5, 4, 2, 1, 3, 6], [9, 8, 7, 0, 5, 4, 2, 1, 3, 6], [10, 8, 7, 0, 5, 4, 2, 1, 3, 6], [11, 9, 8, 7, 0, 5, 4, 2, 1, 3, 6], [12, 10, 8, 7, 0, 5, 4, 2, 1, 3, 6]] [] [] (RLJ s gd gN nv.length cN k kd na nb ka kb nk ok ck po pn pc p ko) ?A ?hA (by kernel_rfl) ?hs ?he
      case hA =>
       intro f
       simp only [putS]
       go_simp
       rfl
      case hs =>
       refine Steps.cons rfl ?_ (Steps.cons rfl ?_ (Steps.cons rfl ?_ (Steps.cons rfl ?_ (Steps.cons rfl ?_ (Steps.cons rfl ?_ (Steps.cons rfl ?_ (Steps.cons rfl ?_ (Steps.cons rfl ?_ (Steps.cons rfl ?_ (Steps.cons rfl ?_ (Steps.cons rfl ?_ (Steps.cons rfl ?_ Steps.nil))))))))))))
       · intro f lo hi W2 hb hd K hK
         rw [if_pos (by rfl)]
         have r0 := (HDr.o.grow hb).at_ 0
         have r1 := (HDr.o.grow hb).at_ 1
         go_simp
         exact hK _ _ (Below.refl _ _) (fun V _ _ _ _ => rfl)
       · intro f lo hi W2 hb hd K hK
         rw [if_pos (by rfl)]
         go_simp
         exact hK _ _ (Below.refl _ _) (fun V _ _ _ _ => rfl)
       · intro f lo hi W2 hb hd K hK
         rw [if_pos (by rfl)]
         have e1 : f 1 = _ := (hd 1 (by decide) (by decide))
         clear hd
         try dsimp only at hK
         generalize f 1 = x1 at e1 hK ⊢
         subst e1
         have r0 := (HDr.o.grow hb).at_ 0
         have r1 := (HDr.o.grow hb).at_ 1
         go_simp
         exact hK _ _ (Below.refl _ _) (fun V _ _ _ _ => rfl)
       · intro f lo hi W2 hb hd K hK
         rw [if_pos (by rfl)]
         go_simp
         exact hK _ _ (Below.refl _ _) (fun V _ _ _ _ => rfl)
       · intro f lo hi W2 hb hd K hK
         rw [if_pos (by rfl)]
         have e2 : f 2 = _ := (hd 2 (by decide) (by decide))
         have e3 : f 3 = _ := (hd 3 (by decide) (by decide))
         clear hd
         try dsimp only at hK
         generalize f 2 = x2 at e2 hK ⊢
         generalize f 3 = x3 at e3 hK ⊢
         subst e2
         subst e3
         go_simp
         exact hK _ _ (Below.refl _ _) (fun V _ _ _ _ => rfl)
       · intro f lo hi W2 hb hd K hK
         rw [if_pos (by rfl)]
         have e4 : f 4 = _ := (hd 4 (by decide) (by decide))
         clear hd
         try dsimp only at hK
         generalize f 4 = x4 at e4 hK ⊢
         subst e4
         obtain ⟨n0, n1, n2, n3, n4, n5, n6⟩ := HND.o W2 (HBr.o.trans (hb.mono HBr.o.size))
         go_simp
         exact hK _ _ (Below.refl _ _) (fun V _ _ _ _ => rfl)
       · intro f lo hi W2 hb hd K hK
         rw [if_pos (by rfl)]
         go_simp
         exact hK _ _ (Below.refl _ _) (fun V _ _ _ _ => rfl)
       · intro f lo hi W2 hb hd K hK
         rw [if_pos (by rfl)]
         have e0 : f 0 = _ := (hd 0 (by decide) (by decide))
         have e5 : f 5 = _ := (hd 5 (by decide) (by decide))
         have e6 : f 6 = _ := (hd 6 (by decide) (by decide))
         clear hd
         try dsimp only at hK
         generalize f 0 = x0 at e0 hK ⊢
         generalize f 5 = x5 at e5 hK ⊢
         generalize f 6 = x6 at e6 hK ⊢
         subst e0
         subst e5
         subst e6
         go_simp
         refine (HCL.o W2 (HBr.o.trans (hb.mono HBr.o.size))).mono ?_
         rintro e w2 ⟨rfl, hb2⟩
         exact hK _ _ hb2 (fun V _ _ _ _ => rfl)
       · intro f lo hi W2 hb hd K hK
         rw [if_pos (by rfl)]
         have e7 : f 7 = _ := (hd 7 (by decide) (by decide))
         clear hd
         try dsimp only at hK
         generalize f 7 = x7 at e7 hK ⊢
         subst e7
         go_simp
         exact hK _ _ (Below.refl _ _) (fun V _ _ _ _ => rfl)
       · intro f lo hi W2 hb hd K hK
         rw [if_pos (by rfl)]
         have e8 : f 8 = _ := (hd 8 (by decide) (by decide))
         clear hd
         try dsimp only at hK
         generalize f 8 = x8 at e8 hK ⊢
         subst e8
         go_simp
         exact hK _ _ (Below.refl _ _) (fun V _ _ _ _ => rfl)
       · intro f lo hi W2 hb hd K hK
         rw [if_pos (by rfl)]
         have e8 : f 8 = _ := (hd 8 (by decide) (by decide))
         clear hd
         try dsimp only at hK
         generalize f 8 = x8 at e8 hK ⊢
         subst e8
         go_simp
         exact hK _ _ (Below.refl _ _) (fun V _ _ _ _ => rfl)
       · intro f lo hi W2 hb hd K hK
         rw [if_pos (by rfl)]
         have e9 : f 9 = _ := (hd 9 (by decide) (by decide))
         clear hd
         try dsimp only at hK
         generalize f 9 = x9 at e9 hK ⊢
         subst e9
         go_simp
         exact hK _ _ (Below.refl _ _) (fun V _ _ _ _ => rfl)
       · intro f lo hi W2 hb hd K hK
         rw [if_pos (by rfl)]
         have e10 : f 10 = _ := (hd 10 (by decide) (by decide))
         clear hd
         try dsimp only at hK
         generalize f 10 = x10 at e10 hK ⊢
         subst e10
         go_simp
         exact hK _ _ (Below.refl _ _) (fun V _ _ _ _ => rfl)
      case he =>
       intro f lo hi W2 hb hR2 hbx hk2
       have e11 : f 11 = _ := hR2 11 (by decide)
       have e12 : f 12 = _ := hR2 12 (by decide)
       clear hR2 hbx hk2
       have HB3 := hq (HBr.o.trans (hb.mono HBr.o.size))
       have HD3 := hq (HDr.o.grow hb)
       clear HBr HDr hb m0 HND HCL
       generalize f 11 = x11 at *
       generalize f 12 = x12 at *
       subst e11
       subst e12
       refine wpOps_done ?_
       have d0 := HD3.o.at_ 0
       have d1 := HD3.o.at_ 1
       cases ko with
       | none =>
         have HV := hq (HP.o none W2 HA2.o HB3.o)
         simp only [Option.isSome_none, Option.getD_none] at HV ⊢
         clear HP HA2 HKQ
         go_wp2_with fail
         first | exact HV.o | (go_ret; exact HV.o)
       | some q =>
         have hq1 := HKQ.o q rfl hk
         simp only [Option.isSome_some, Option.getD_some]
         have b1 : decide ((q : Int) < 0) = false := decide_eq_false (by omega)
         have b2 : decide ((nv.length : Int) ≤ (q : Int)) = false := decide_eq_false (by omega)
         clear HP HKQ
         go_wp2_with fail
         go_roundw
         case rel => exact ⟨j + 1, q, h, int_eq (by omega), hq1, rfl, HB3, HD3, hq HA2.o⟩
         case measure => (try simp [intOf]); omega
    · have hz : ¬ (j : Int) < (l.length : Int) := by omega
      have HV := hq (HP.o (some k) wr (by rw [HA.o, List.drop_eq_nil_of_le (by omega)]; rfl) HBr.o)
      simp only [Option.isSome_some, Option.getD_some] at HV
      clear HP HA HNP HKL HRM
      go_wp2_with fail
      first | exact HV.o | (go_ret; exact HV.o)
end Go.Proofs.YtnlkokgekjlmmaaGreatDoor
