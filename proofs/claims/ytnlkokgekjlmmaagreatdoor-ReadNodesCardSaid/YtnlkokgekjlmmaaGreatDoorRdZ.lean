/-
  WALK: the law ReadNodes.
-/
import Derived.Test.YtnlkokgekjlmmaaGreatDoorRdU
import Derived.Test.YtnlkokgekjlmmaaGreatDoorRdK
namespace Go.Proofs.YtnlkokgekjlmmaaGreatDoor
open Go.RowKit
set_option maxHeartbeats 8000000 in
set_option maxRecDepth 1000000 in
theorem rdnode_none (s : ByteArray) (gN n cN gr : Nat) (_hn : n ≤ 4096) (W : World) (hw : Whole W gr 109 #[.string s, .slice (some ⟨gN, 0, none⟩) n cN, .int .i64 (n : Int)]) (k : Int) (hk : k < 0 ∨ (n : Int) ≤ k) :
 Calls Tryz.prog 69 #[.pointer (some ⟨gr, 0, none⟩), .int .i64 k, .int .i64 1] W fun e W' => e = .returned (.tuple #[.agg #[.int .i64 0, .string ⟨#[]⟩, .slice none 0 0, .slice none 0 0], .bool false]) ∧ Below W.heap.size W W' := by
 have HB0 := hq (below_alloc W (.cells #[.int .i64 0, .string ⟨#[]⟩, .slice none 0 0, .slice none 0 0] 25))
 have HZ0 := hq (Whole.made W 25 #[.int .i64 0, .string ⟨#[]⟩, .slice none 0 0, .slice none 0 0])
 have HR0 := hq (hw.alloc (.cells #[.int .i64 0, .string ⟨#[]⟩, .slice none 0 0, .slice none 0 0] 25))
 have HP : Hq (∀ W', Below W.heap.size W W' → (fun (e : Ending) (W' : World) => e = .returned (.tuple #[.agg #[.int .i64 0, .string ⟨#[]⟩, .slice none 0 0, .slice none 0 0], .bool false]) ∧ Below W.heap.size W W') (.returned (.tuple #[.agg #[.int .i64 0, .string ⟨#[]⟩, .slice none 0 0, .slice none 0 0], .bool false])) W') := hq (fun W' h => ⟨rfl, h⟩)
 generalize (fun (e : Ending) (W' : World) => e = .returned (.tuple #[.agg #[.int .i64 0, .string ⟨#[]⟩, .slice none 0 0, .slice none 0 0], .bool false]) ∧ Below W.heap.size W W') = PP at *
 clear hw
 go_enter Tryz.func69, Tryz.ntmps69
 go_upto_region 1 with fail
 generalize (W.alloc (.cells #[.int .i64 0, .string ⟨#[]⟩, .slice none 0 0, .slice none 0 0] 25)) = V0 at *
 obtain ⟨g, HG⟩ : ∃ g, Hq (W.heap.size = g) := ⟨_, hq rfl⟩
 rw [HG.o] at HZ0
 rw [HG.o]
 have r0 := HR0.o.at_ 0
 have r1 := HR0.o.at_ 1
 have r2 := HR0.o.at_ 2
 obtain ⟨z0, z1, z2, z3⟩ := four_cells HZ0.o
 have f0 := HZ0.o.free 0
 have f1 := HZ0.o.free 1
 have f2 := HZ0.o.free 2
 have f3 := HZ0.o.free 3
 have HV := hq (HP.o _ (put4_below HB0.o (Nat.le_of_eq HG.o) (.int .i64 0) (.string ⟨#[]⟩) (.slice none 0 0) (.slice none 0 0)))
 clear HP HR0 HZ0 HB0
 by_cases h0 : k < 0
 · clear hk
   go_wp2_with fail
   refine bodyPost_ret (v := .tuple #[.agg #[.int .i64 0, .string ⟨#[]⟩, .slice none 0 0, .slice none 0 0], .bool false]) ?_ rfl HV.o
   simp [results, Tryz.results69, go_sem, z0, z1, z2, z3]
 · have h1 : (n : Int) ≤ k := by omega
   clear hk
   go_wp2_with fail
   refine bodyPost_ret (v := .tuple #[.agg #[.int .i64 0, .string ⟨#[]⟩, .slice none 0 0, .slice none 0 0], .bool false]) ?_ rfl HV.o
   simp [results, Tryz.results69, go_sem, z0, z1, z2, z3]
set_option maxHeartbeats 8000000 in
set_option maxRecDepth 1000000 in
theorem readNode_none (s : ByteArray) (nv : List NV) (gN cN : Nat) (W : World) (hD : DocR nv gN cN W) (k : Int) (hk : k < 0 ∨ (nv.length : Int) ≤ k) :
 Calls Tryz.prog 36 #[.agg #[.string s, .slice (some ⟨gN, 0, none⟩) nv.length cN], .int .i64 k] W fun e W' => e = .returned (.tuple #[.agg #[.int .i64 0, .string ⟨#[]⟩, .slice none 0 0, .slice none 0 0], .bool false]) ∧ Below W.heap.size W W' := by
 have hle := hD.le
 have hcp := hD.cp
 have hn4 := hD.n4
 unfold maxLen at hcp
 have HND := hq (fun (gr : Nat) (V : World) (h : Whole V gr 109 #[.string s, .slice (some ⟨gN, 0, none⟩) nv.length cN, .int .i64 ((nv.length : Nat) : Int)]) => rdnode_none s gN nv.length cN gr hn4 V h k hk)
 have HP : Hq (∀ W', Below W.heap.size W W' → (fun (e : Ending) (W' : World) => e = .returned (.tuple #[.agg #[.int .i64 0, .string ⟨#[]⟩, .slice none 0 0, .slice none 0 0], .bool false]) ∧ Below W.heap.size W W') (.returned (.tuple #[.agg #[.int .i64 0, .string ⟨#[]⟩, .slice none 0 0, .slice none 0 0], .bool false])) W') := hq (fun W' h => ⟨rfl, h⟩)
 generalize (fun (e : Ending) (W' : World) => e = .returned (.tuple #[.agg #[.int .i64 0, .string ⟨#[]⟩, .slice none 0 0, .slice none 0 0], .bool false]) ∧ Below W.heap.size W W') = PP at *
 clear hD hk
 have HB0 := hq (below_alloc W (.cells #[.string s, .slice (some ⟨gN, 0, none⟩) nv.length cN] 46))
 have HD0 := hq (Whole.made W 46 #[.string s, .slice (some ⟨gN, 0, none⟩) nv.length cN])
 have hz0 : Hq ((W.alloc (.cells #[.string s, .slice (some ⟨gN, 0, none⟩) nv.length cN] 46)).heap.size = W.heap.size + 1) := hq (World.size_alloc _ _)
 go_enter Tryz.func36, Tryz.ntmps36
 go_upto_region 1 with fail
 generalize (W.alloc (.cells #[.string s, .slice (some ⟨gN, 0, none⟩) nv.length cN] 46)) = W1 at *
 have HB1 := hq (HB0.o.alloc HB0.o.size (.cells #[.int .i64 0, .string ⟨#[]⟩, .slice none 0 0, .slice none 0 0] 25))
 have HD1 := hq (HD0.o.alloc (.cells #[.int .i64 0, .string ⟨#[]⟩, .slice none 0 0, .slice none 0 0] 25))
 have HR1 := hq (Whole.made W1 25 #[.int .i64 0, .string ⟨#[]⟩, .slice none 0 0, .slice none 0 0])
 generalize (W1.alloc (.cells #[.int .i64 0, .string ⟨#[]⟩, .slice none 0 0, .slice none 0 0] 25)) = W2 at *
 obtain ⟨gr, HGR⟩ : ∃ g, Hq (W.heap.size + 1 = g) := ⟨_, hq rfl⟩
 rw [hz0.o, HGR.o] at HR1
 rw [HGR.o]
 have d0 := HD1.o.at_ 0
 have d1 := HD1.o.at_ 1
 go_upto_region 2 with fail
 have HRD := hq (Whole.made W2 109 #[.string s, .slice (some ⟨gN, 0, none⟩) nv.length cN, .int .i64 (nv.length : Int)])
 have HB2 := hq (below_alloc W2 (.cells #[.string s, .slice (some ⟨gN, 0, none⟩) nv.length cN, .int .i64 (nv.length : Int)] 109))
 have HR2 := hq (HR1.o.grow HB2.o)
 generalize (W2.alloc (.cells #[.string s, .slice (some ⟨gN, 0, none⟩) nv.length cN, .int .i64 (nv.length : Int)] 109)) = W3 at *
 clear d0 d1 HD1 HD0
 go_wp2_with fail
 refine (HND.o _ W3 HRD.o).mono ?_
 rintro e w9 ⟨rfl, hb9⟩
 have HB9 := hq (below_trans (HB1.o.trans (HB2.o.mono HB1.o.size)) hb9)
 have HR9 := hq (HR2.o.grow hb9)
 obtain ⟨z0, z1, z2, z3⟩ := four_cells HR9.o
 have f0 := HR9.o.free 0
 have f1 := HR9.o.free 1
 have f2 := HR9.o.free 2
 have f3 := HR9.o.free 3
 have hgrW : W.heap.size ≤ gr := by have := HGR.o; omega
 have HV := hq (HP.o _ (put4_below HB9.o hgrW (.int .i64 0) (.string ⟨#[]⟩) (.slice none 0 0) (.slice none 0 0)))
 clear hb9 HB9 HP HR9
 go_wp2_with fail
 refine bodyPost_ret (v := .tuple #[.agg #[.int .i64 0, .string ⟨#[]⟩, .slice none 0 0, .slice none 0 0], .bool false]) ?_ rfl HV.o
 simp [results, Tryz.results36, go_sem, z0, z1, z2, z3]
def RZ12 (s : ByteArray) (gN n cN k : Nat) (va : Value) (m : Vl) (i : Nat) (v : Value) (_ _ : Nat) (W : World) : Prop := match i with
 | 0 => v = .bool true
 | 1 => v = .bool true
 | 2 => v = va
 | 3 => v = .agg #[.string s, .slice (some ⟨gN, 0, none⟩) n cN]
 | 4 => v = .int .i64 (k : Int)
 | 5 => IsVR m v W
 | 6 => v = .bool true
 | _ => v = .bool false
set_option maxHeartbeats 32000000 in
set_option maxRecDepth 1000000 in
theorem rnodes_law (s : ByteArray) (k : Int) (p : SRow) (w : World) (hE : Env w) (hs : s.size ≤ maxLen) (hp : p.ok w) (hpt : Room p.l) : Calls Tryz.prog 9 #[.string s, .int .i64 k, p.v] w (BPost true w) := by
 obtain ⟨po, pc, pl⟩ := p
 have HSM : Hq (Calls Tryz.prog 29 #[] w (fun e W' => e = .returned (.bool true) ∧ Below w.heap.size w W')) := hq (small9_any w hE)
 have HSH := hq (fun V (hV : Below w.heap.size w V) => short_any po pc pl V hp.le hp.cp (hp.grow hV).rd hpt)
 have HFI : Hq (∀ W', Below w.heap.size w W' → BPost true w (.returned (.bool true)) W') := hq (fun W' h => ⟨rfl, h⟩)
 have hple : pl.length ≤ pc := hp.le
 have hpcp : pc ≤ maxLen := hp.cp
 generalize BPost true w = PP at *
 by_cases hz : 4096 < s.size
 · have hz1 : (4096 : Int) < (s.size : Int) := by omega
   unfold maxLen at hs hpcp
   clear hE hp hpt
   go_enter Tryz.func9, Tryz.ntmps9
   go_wp2_with fail
   refine HSM.o.mono ?_
   rintro e w1 ⟨rfl, hb1⟩
   have HB1 := hq hb1
   clear hb1 HSM
   go_wp2_with fail
   refine (HSH.o w1 HB1.o).mono ?_
   rintro e w3 ⟨⟨vp, rfl, hvp⟩, hw3⟩
   obtain rfl := hw3.symm
   clear hw3 hvp HSH
   have HV := hq (HFI.o w1 HB1.o)
   clear HFI
   go_wp2_with fail
   first | exact HV.o | (go_ret; exact HV.o)
 have hz1 : ¬ (4096 : Int) < (s.size : Int) := by omega
 have h4 : s.size ≤ 4096 := by omega
 cases hpm : jparseM s with
 | inl q =>
   obtain ⟨wh, er⟩ := q
   have HPA : Hq (∀ V, Below w.heap.size w V → Calls Tryz.prog 34 #[.string s] V fun e W' => e = .returned (.tuple #[.agg #[.string ⟨#[]⟩, .slice none 0 0], .int .i64 (wh : Int), .int .i64 er]) ∧ Below V.heap.size V W') := hq (fun V hb => (jparse_any s V (hE.grow hb).tab hs).mono fun e w h => by unfold JParsePost at h; rw [hpm] at h; exact h)
   have HRD : Hq (∀ V, Calls Tryz.prog 35 #[.string s] V fun e W' => e = .returned (.tuple #[.agg #[.string ⟨#[]⟩, .slice none 0 0], .int .i64 (wh : Int), .int .i64 er]) ∧ Below V.heap.size V W') := hq (fun V => (rjparse_any s V hs).mono fun e w h => by unfold JParsePost at h; rw [hpm] at h; exact h)
   have her : er ≠ 0 := jparseM_er hpm
   have e0 : (er != 0) = true := by simpa using her
   unfold maxLen at hs hpcp
   clear hE hp hpt hpm her hz h4
   go_enter Tryz.func9, Tryz.ntmps9
   go_wp2_with fail
   refine HSM.o.mono ?_
   rintro e w1 ⟨rfl, hb1⟩
   have HB1 := hq hb1
   clear hb1 HSM
   go_wp2_with fail
   refine (HSH.o w1 HB1.o).mono ?_
   rintro e w3 ⟨⟨vp, rfl, hvp⟩, hw3⟩
   obtain rfl := hw3.symm
   clear hw3 hvp HSH
   cases vp with
   | false =>
     have HV := hq (HFI.o w1 HB1.o)
     clear HFI HPA HRD
     go_wp2_with fail
     first | exact HV.o | (go_ret; exact HV.o)
   | true =>
   go_wp2_with fail
   refine (HPA.o w1 HB1.o).mono ?_
   rintro e w4 ⟨rfl, hb4⟩
   have HB4 := hq (below_trans (below_trans HB1.o hb4) (below_alloc w4 (.cells #[.string ⟨#[]⟩, .slice none 0 0] 46)))
   clear hb4 HPA
   go_upto_region 6 with fail
   generalize (w4.alloc (.cells #[.string ⟨#[]⟩, .slice none 0 0] 46)) = w5 at *
   go_wp2_with fail
   refine (HRD.o w5).mono ?_
   rintro e w6 ⟨rfl, hb6⟩
   have HB6 := hq (below_trans (below_trans HB4.o hb6) (below_alloc w6 (.cells #[.string ⟨#[]⟩, .slice none 0 0] 46)))
   clear hb6 HRD
   have HV := hq (HFI.o _ HB6.o)
   clear HFI
   go_wp2_with fail
   first | exact HV.o | (go_ret; exact HV.o)
 | inr ns =>
   have h64 := parsed_size hpm
   have hR : ∀ (nv : List NV), nv.map (·.n) = ns → ∀ i, i < nv.length → ∃ v c, Rv s (nv.map (·.n)) 32 i v c := fun nv hn i hi => by
    rw [hn]
    obtain ⟨v, c, h, _⟩ := (jparseM_rv hpm).2 i (by have := congrArg List.length hn; rw [List.length_map] at this; omega)
    exact ⟨v, c, h⟩
   have HLN := hq (fun (nv : List NV) (h : nv.map (·.n) = ns) => (show nv.length = ns.length from by have := congrArg List.length h; rwa [List.length_map] at this))
   have HPA : Hq (∀ V, Below w.heap.size w V → Calls Tryz.prog 34 #[.string s] V fun e W' => ∃ nv gN cN, e = .returned (.tuple #[.agg #[.string s, .slice (some ⟨gN, 0, none⟩) nv.length cN], .int .i64 (s.size : Int), .int .i64 0]) ∧ (DocR nv gN cN W' ∧ nv.map (·.n) = ns ∧ 0 < nv.length) ∧ Below V.heap.size V W') := hq (fun V hb => (jparse_any s V (hE.grow hb).tab hs).mono fun e W' h => by
    unfold JParsePost at h
    rw [hpm] at h
    obtain ⟨nv, vN, h1, h2, h3, h5⟩ := h
    obtain ⟨h0, g, c, rfl, h6⟩ := doc_r hpm h2 h3
    exact ⟨nv, g, c, h1, ⟨h6, h3, h0⟩, h5⟩)
   have HRD : Hq (∀ V, Calls Tryz.prog 35 #[.string s] V fun e W' => ∃ nv gN cN, e = .returned (.tuple #[.agg #[.string s, .slice (some ⟨gN, 0, none⟩) nv.length cN], .int .i64 (s.size : Int), .int .i64 0]) ∧ (DocR nv gN cN W' ∧ nv.map (·.n) = ns ∧ 0 < nv.length) ∧ Below V.heap.size V W') := hq (fun V => (rjparse_any s V hs).mono fun e W' h => by
    unfold JParsePost at h
    rw [hpm] at h
    obtain ⟨nv, vN, h1, h2, h3, h5⟩ := h
    obtain ⟨h0, g, c, rfl, h6⟩ := doc_r hpm h2 h3
    exact ⟨nv, g, c, h1, ⟨h6, h3, h0⟩, h5⟩)
   have HAT := hq (fun (V : World) (hV : Below w.heap.size w V) (nv : List NV) (gN cN : Nat) (hD : DocR nv gN cN V) (hn : nv.map (·.n) = ns) (h0 : 0 < nv.length) => (show Calls Tryz.prog 38 #[.agg #[.string s, .slice (some ⟨gN, 0, none⟩) nv.length cN], .slice po pl.length pc] V (fun e W' => e = .returned (.tuple #[.int .i64 (((atP s ns pl).getD 0 : Nat) : Int), .bool (atP s ns pl).isSome]) ∧ Below V.heap.size V W') from (readAt_any s nv gN cN V (hE.grow hV) h64 hD h0 (hR nv hn) ⟨po, pc, pl⟩ (hp.grow hV) hpt).mono (fun e W' h => by rw [hn] at h; exact h)))
   have HAR := hq (fun (V : World) (hV : Below w.heap.size w V) (nv : List NV) (gN cN : Nat) (hD : DocR nv gN cN V) (hn : nv.map (·.n) = ns) (h0 : 0 < nv.length) => (show Calls Tryz.prog 39 #[.agg #[.string s, .slice (some ⟨gN, 0, none⟩) nv.length cN], .slice po pl.length pc] V (fun e W' => e = .returned (.tuple #[.int .i64 (((atP s ns pl).getD 0 : Nat) : Int), .bool (atP s ns pl).isSome]) ∧ Below V.heap.size V W') from (rdocat_any s nv gN cN V h64 hD h0 (hR nv hn) ⟨po, pc, pl⟩ (hp.grow hV) hpt).mono (fun e W' h => by rw [hn] at h; exact h)))
   generalize (atP s ns pl).isSome = ab at *
   generalize ((atP s ns pl).getD 0 : Nat) = an at *
   clear hp hpt
   by_cases hk : 0 ≤ k ∧ k < (ns.length : Int)
   · obtain ⟨kk, rfl⟩ : ∃ kk : Nat, k = (kk : Int) := ⟨k.toNat, by omega⟩
     have hkl : kk < ns.length := by omega
     obtain ⟨wv, cc, hr32, hcc⟩ := (jparseM_rv hpm).2 kk hkl
     have hrng := hr32.rng h64
     have HND := hq (fun (V : World) (hV : Below w.heap.size w V) (nv : List NV) (gN cN : Nat) (hD : DocR nv gN cN V) (hn : nv.map (·.n) = ns) => (readNode_any s nv gN cN V (hE.grow hV) h64 hD (k := kk) (by rw [hn]; exact hr32) (by have := HLN.o nv hn; omega)).mono (R' := fun e W' => ∃ z : Vt, e = .returned (.tuple #[z.v, .bool true]) ∧ (z.Ok W' ∧ z.m = wv) ∧ Below V.heap.size V W') (fun e W' h => by
      obtain ⟨z, h1, h2, h3, h5⟩ := h
      exact ⟨z, h1, ⟨h2.ok (by rw [h3]; exact hrng), h3⟩, h5⟩))
     have HNR := hq (fun (V : World) (nv : List NV) (gN cN : Nat) (hD : DocR nv gN cN V) (hn : nv.map (·.n) = ns) => (rdocnode_any s nv gN cN V h64 hD (k := kk) (by rw [hn]; exact hr32) V (Below.refl _ _)).mono (R' := fun e W' => ∃ y : Vt, e = .returned y.v ∧ (y.Own 25 9 V.heap.size (fun _ => True) W' ∧ y.m = wv) ∧ Below V.heap.size V W') (fun e W' ⟨y, h1, h2, h3, h4⟩ => ⟨y, h1, ⟨h2, h3⟩, h4⟩))
     have HRG := hq hrng
     clear hpm hrng hr32 hcc hR hE
     unfold maxLen at hs hpcp
     clear hz h4
     go_enter Tryz.func9, Tryz.ntmps9
     go_wp2_with fail
     refine HSM.o.mono ?_
     rintro e w1 ⟨rfl, hb1⟩
     have HB1 := hq hb1
     clear hb1 HSM
     go_wp2_with fail
     refine (HSH.o w1 HB1.o).mono ?_
     rintro e w3 ⟨⟨vp, rfl, hvp⟩, hw3⟩
     obtain rfl := hw3.symm
     clear hw3 hvp HSH
     cases vp with
     | false =>
       have HV := hq (HFI.o w1 HB1.o)
       clear HFI HPA HRD HAT HAR HND HNR
       go_wp2_with fail
       first | exact HV.o | (go_ret; exact HV.o)
     | true =>
     go_wp2_with fail
     refine (HPA.o w1 HB1.o).mono ?_
     rintro e w4 ⟨nv, gN, cN, rfl, ⟨hD4, hn4, hp4⟩, hb4⟩
     have HNV := hq hn4
     have HPV := hq hp4
     have hba := below_alloc w4 (.cells #[.string s, .slice (some ⟨gN, 0, none⟩) nv.length cN] 46)
     have HB5 := hq (below_trans (below_trans HB1.o hb4) hba)
     have HD5 := hq (hD4.grow hba)
     have HX5 := hq (Whole.made w4 46 #[.string s, .slice (some ⟨gN, 0, none⟩) nv.length cN])
     clear hb4 hba hD4 hn4 hp4 HPA HB1
     go_upto_region 6 with fail
     generalize (w4.alloc (.cells #[.string s, .slice (some ⟨gN, 0, none⟩) nv.length cN] 46)) = w5 at *
     generalize w4.heap.size = g9 at *
     go_wp2_with fail
     refine (HRD.o w5).mono ?_
     rintro e w6 ⟨mv, gM, cM, rfl, ⟨hE6, hn6, hp6⟩, hb6⟩
     have HNM := hq hn6
     have HPM := hq hp6
     have hba := below_alloc w6 (.cells #[.string s, .slice (some ⟨gM, 0, none⟩) mv.length cM] 46)
     have HB7 := hq (below_trans (below_trans HB5.o hb6) hba)
     have HD7 := hq ((HD5.o.grow hb6).grow hba)
     have HX7 := hq ((HX5.o.grow hb6).grow hba)
     have HE7 := hq (hE6.grow hba)
     have HY7 := hq (Whole.made w6 46 #[.string s, .slice (some ⟨gM, 0, none⟩) mv.length cM])
     clear hb6 hba hE6 hn6 hp6 HRD HB5 HD5 HX5
     go_upto_region 7 with fail
     generalize (w6.alloc (.cells #[.string s, .slice (some ⟨gM, 0, none⟩) mv.length cM] 46)) = w7 at *
     generalize w6.heap.size = g12 at *
     have x0 := HX7.o.at_ 0
     have x1 := HX7.o.at_ 1
     obtain ⟨hml1, hml2⟩ : ns.length ≤ mv.length ∧ mv.length ≤ ns.length := by
      have := HLN.o mv HNM.o
      omega
     have hm4 := HE7.o.n4
     go_wp2_with fail
     refine (HND.o w7 HB7.o nv gN cN HD7.o HNV.o).mono ?_
     rintro e w8 ⟨z, rfl, ⟨hzo, hzm⟩, hb8⟩
     have HZI := hq (show IsVR _ z.v w8 from ⟨z, rfl, hzo, hzm⟩)
     obtain ⟨zk, zt, ⟨zko, zkc, zkl⟩, zo, zc, zis⟩ := z
     rw [Vt.v_mk'] at HZI ⊢
     have hba := below_alloc w8 (.cells #[.int .i64 zk, .string (st zt), .slice zko zkl.length zkc, .slice zo zis.length zc] 25)
     have HB9 := hq (below_trans (below_trans HB7.o hb8) hba)
     have HD9 := hq ((HD7.o.grow hb8).grow hba)
     have HX9 := hq ((HX7.o.grow hb8).grow hba)
     have HE9 := hq ((HE7.o.grow hb8).grow hba)
     have HY9 := hq ((HY7.o.grow hb8).grow hba)
     have HZ9 := hq (Whole.made w8 25 #[.int .i64 zk, .string (st zt), .slice zko zkl.length zkc, .slice zo zis.length zc])
     have HI9 := hq (HZI.o.growR hba)
     clear hb8 hba hzo hzm HB7 HD7 HX7 HE7 HY7 HZI HND x0 x1
     go_upto_region 10 with fail
     generalize (w8.alloc (.cells #[.int .i64 zk, .string (st zt), .slice zko zkl.length zkc, .slice zo zis.length zc] 25)) = w9 at *
     generalize w8.heap.size = g15 at *
     have y0 := HY9.o.at_ 0
     have y1 := HY9.o.at_ 1
     have k1 : (0 : Int) ≤ (kk : Int) := by omega
     have k2 : (kk : Int) < (mv.length : Int) := by omega
     have k3 : decide ((0 : Int) ≤ (kk : Int)) = true := decide_eq_true k1
     have k4 : decide ((kk : Int) < (mv.length : Int)) = true := decide_eq_true k2
     go_upto_region 12 with fail
     clear y0 y1
     refine go_flow (by kernel_rfl) [(0, 82), (1, 83), (2, 84), (3, 85), (4, 86), (5, 87), (6, 88), (7, 89), (8, 90)] [[0], [1, 0], [2, 1, 0], [3, 1, 0], [4, 1, 0], [5, 3, 1, 0, 4], [6, 2, 1, 0, 5, 3, 4], [7, 6, 2, 1, 0, 5, 3, 4], [8, 1, 0, 7, 6, 2, 5, 3, 4]] [] [] (RZ12 s gM mv.length cM kk (.agg #[.int .i64 zk, .string (st zt), .slice zko zkl.length zkc, .slice zo zis.length zc]) wv) ?A ?hA (by kernel_rfl) ?hs ?he
     case hA =>
      intro f
      simp only [putS]
      go_simp
      rfl
     case hs =>
      refine Steps.cons rfl ?_ (Steps.cons rfl ?_ (Steps.cons rfl ?_ (Steps.cons rfl ?_ (Steps.cons rfl ?_ (Steps.cons rfl ?_ (Steps.cons rfl ?_ (Steps.cons rfl ?_ (Steps.cons rfl ?_ Steps.nil))))))))
      · intro f lo hi W2 hb hd K hK
        rw [if_pos (by rfl)]
        go_simp
        exact hK _ _ (Below.refl _ _) (fun V _ _ _ _ => rfl)
      · intro f lo hi W2 hb hd K hK
        have e0 : f 0 = _ := (hd 0 (by decide) (by decide))
        clear hd
        try dsimp only at hK
        generalize f 0 = x0 at e0 hK ⊢
        subst e0
        rw [if_pos (by rfl)]
        go_simp
        exact hK _ _ (Below.refl _ _) (fun V _ _ _ _ => rfl)
      · intro f lo hi W2 hb hd K hK
        have e1 : f 1 = _ := (hd 1 (by decide) (by decide))
        clear hd
        try dsimp only at hK
        generalize f 1 = x1 at e1 hK ⊢
        subst e1
        rw [if_pos (by rfl)]
        obtain ⟨z0, z1, z2, z3⟩ := four_cells (HZ9.o.grow hb)
        go_simp
        exact hK _ _ (Below.refl _ _) (fun V _ _ _ _ => rfl)
      · intro f lo hi W2 hb hd K hK
        have e1 : f 1 = _ := (hd 1 (by decide) (by decide))
        clear hd
        try dsimp only at hK
        generalize f 1 = x1 at e1 hK ⊢
        subst e1
        rw [if_pos (by rfl)]
        have y0 := (HY9.o.grow hb).at_ 0
        have y1 := (HY9.o.grow hb).at_ 1
        go_simp
        exact hK _ _ (Below.refl _ _) (fun V _ _ _ _ => rfl)
      · intro f lo hi W2 hb hd K hK
        have e1 : f 1 = _ := (hd 1 (by decide) (by decide))
        clear hd
        try dsimp only at hK
        generalize f 1 = x1 at e1 hK ⊢
        subst e1
        rw [if_pos (by rfl)]
        go_simp
        exact hK _ _ (Below.refl _ _) (fun V _ _ _ _ => rfl)
      · intro f lo hi W2 hb hd K hK
        have e1 : f 1 = _ := hd 1 (by decide) (by decide)
        have e3 : f 3 = _ := hd 3 (by decide) (by decide)
        have e4 : f 4 = _ := hd 4 (by decide) (by decide)
        clear hd
        try dsimp only at hK
        generalize f 1 = x1 at e1 hK ⊢
        generalize f 3 = x3 at e3 hK ⊢
        generalize f 4 = x4 at e4 hK ⊢
        subst e1
        subst e3
        subst e4
        rw [if_pos (by rfl)]
        go_simp
        refine (HNR.o W2 mv gM cM (HE9.o.grow hb) HNM.o).mono ?_
        rintro e w2 ⟨y, rfl, ⟨hyo, hym⟩, hb2⟩
        exact hK _ _ hb2 (fun U _ _ hbl _ => ⟨y, rfl, (own_same hyo (fun g h1 h2 => hbl g h1 h2)).ok (by rw [hym]; exact HRG.o), hym⟩)
      · intro f lo hi W2 hb hd K hK
        have e1 : f 1 = _ := hd 1 (by decide) (by decide)
        have e2 : f 2 = _ := hd 2 (by decide) (by decide)
        obtain ⟨y, e5, hyo, hym⟩ := hd 5 (by decide) (by decide)
        clear hd
        try dsimp only at hK
        generalize f 1 = x1 at e1 hK ⊢
        generalize f 2 = x2 at e2 hK ⊢
        generalize f 5 = x5 at e5 hK ⊢
        subst e1
        subst e2
        subst e5
        rw [if_pos (by rfl)]
        go_simp
        refine (equalVR_any (r := true) (HI9.o.growR hb) (show IsVR wv y.v W2 from ⟨y, rfl, hyo, hym⟩) ⟨fun _ => rfl, fun _ => rfl⟩).mono ?_
        rintro e w2 ⟨rfl, hb2⟩
        exact hK _ _ hb2 (fun _ _ _ _ _ => rfl)
      · intro f lo hi W2 hb hd K hK
        have e6 : f 6 = _ := (hd 6 (by decide) (by decide))
        have e1 : f 1 = _ := (hd 1 (by decide) (by decide))
        clear hd
        try dsimp only at hK
        generalize f 6 = x6 at e6 hK ⊢
        generalize f 1 = x1 at e1 hK ⊢
        subst e6
        subst e1
        rw [if_pos (by rfl)]
        go_simp
        exact hK _ _ (Below.refl _ _) (fun V _ _ _ _ => rfl)
      · intro f lo hi W2 hb hd K hK
        have e1 : f 1 = _ := (hd 1 (by decide) (by decide))
        have e7 : f 7 = _ := (hd 7 (by decide) (by decide))
        clear hd
        try dsimp only at hK
        generalize f 1 = x1 at e1 hK ⊢
        generalize f 7 = x7 at e7 hK ⊢
        subst e1
        subst e7
        rw [if_pos (by rfl)]
        go_simp
        exact hK _ _ (Below.refl _ _) (fun V _ _ _ _ => rfl)
     case he =>
      intro f lo hi W2 hb hR hbx hk2
      have e8 : f 8 = _ := hR 8 (by decide)
      have HB10 := hq (below_trans HB9.o hb)
      have HD10 := hq (HD9.o.grow hb)
      have HX10 := hq (HX9.o.grow hb)
      have HE10 := hq (HE9.o.grow hb)
      have HY10 := hq (HY9.o.grow hb)
      clear hR hbx hk2 hb HB9 HD9 HX9 HE9 HY9 HZ9 HI9 HNR HRG
      generalize f 8 = x8 at *
      subst e8
      refine wpOps_done ?_
      have x0 := HX10.o.at_ 0
      have x1 := HX10.o.at_ 1
      go_wp2_with fail
      refine (HAT.o W2 HB10.o nv gN cN HD10.o HNV.o HPV.o).mono ?_
      rintro e w11 ⟨rfl, hb11⟩
      have HB11 := hq (below_trans HB10.o hb11)
      have HE11 := hq (HE10.o.grow hb11)
      have HY11 := hq (HY10.o.grow hb11)
      clear hb11 HB10 HD10 HX10 HE10 HY10 HAT x0 x1
      have y0 := HY11.o.at_ 0
      have y1 := HY11.o.at_ 1
      go_wp2_with fail
      refine (HAR.o w11 HB11.o mv gM cM HE11.o HNM.o HPM.o).mono ?_
      rintro e w12 ⟨rfl, hb12⟩
      have HV := hq (HFI.o w12 (below_trans HB11.o hb12))
      clear hb12 HB11 HE11 HY11 HAR HFI y0 y1
      have e1 : ((an : Int) == (an : Int)) = true := beq_self_eq_true _
      have e2 : (ab == ab) = true := beq_self_eq_true _
      go_wp2_with fail
      first | exact HV.o | (go_ret; exact HV.o)
   · have HND := hq (fun (V : World) (nv : List NV) (gN cN : Nat) (hD : DocR nv gN cN V) (hn : nv.map (·.n) = ns) => readNode_none s nv gN cN V hD k (by have := HLN.o nv hn; omega))
     clear hpm hR hE
     unfold maxLen at hs hpcp
     clear hz h4
     go_enter Tryz.func9, Tryz.ntmps9
     go_wp2_with fail
     refine HSM.o.mono ?_
     rintro e w1 ⟨rfl, hb1⟩
     have HB1 := hq hb1
     clear hb1 HSM
     go_wp2_with fail
     refine (HSH.o w1 HB1.o).mono ?_
     rintro e w3 ⟨⟨vp, rfl, hvp⟩, hw3⟩
     obtain rfl := hw3.symm
     clear hw3 hvp HSH
     cases vp with
     | false =>
       have HV := hq (HFI.o w1 HB1.o)
       clear HFI HPA HRD HAT HAR HND
       go_wp2_with fail
       first | exact HV.o | (go_ret; exact HV.o)
     | true =>
     go_wp2_with fail
     refine (HPA.o w1 HB1.o).mono ?_
     rintro e w4 ⟨nv, gN, cN, rfl, ⟨hD4, hn4, hp4⟩, hb4⟩
     have HNV := hq hn4
     have HPV := hq hp4
     have hba := below_alloc w4 (.cells #[.string s, .slice (some ⟨gN, 0, none⟩) nv.length cN] 46)
     have HB5 := hq (below_trans (below_trans HB1.o hb4) hba)
     have HD5 := hq (hD4.grow hba)
     have HX5 := hq (Whole.made w4 46 #[.string s, .slice (some ⟨gN, 0, none⟩) nv.length cN])
     clear hb4 hba hD4 hn4 hp4 HPA HB1
     go_upto_region 6 with fail
     generalize (w4.alloc (.cells #[.string s, .slice (some ⟨gN, 0, none⟩) nv.length cN] 46)) = w5 at *
     generalize w4.heap.size = g9 at *
     go_wp2_with fail
     refine (HRD.o w5).mono ?_
     rintro e w6 ⟨mv, gM, cM, rfl, ⟨hE6, hn6, hp6⟩, hb6⟩
     have HNM := hq hn6
     have HPM := hq hp6
     have hba := below_alloc w6 (.cells #[.string s, .slice (some ⟨gM, 0, none⟩) mv.length cM] 46)
     have HB7 := hq (below_trans (below_trans HB5.o hb6) hba)
     have HD7 := hq ((HD5.o.grow hb6).grow hba)
     have HX7 := hq ((HX5.o.grow hb6).grow hba)
     have HE7 := hq (hE6.grow hba)
     have HY7 := hq (Whole.made w6 46 #[.string s, .slice (some ⟨gM, 0, none⟩) mv.length cM])
     clear hb6 hba hE6 hn6 hp6 HRD HB5 HD5 HX5
     go_upto_region 7 with fail
     generalize (w6.alloc (.cells #[.string s, .slice (some ⟨gM, 0, none⟩) mv.length cM] 46)) = w7 at *
     generalize w6.heap.size = g12 at *
     have x0 := HX7.o.at_ 0
     have x1 := HX7.o.at_ 1
     obtain ⟨hml1, hml2⟩ : ns.length ≤ mv.length ∧ mv.length ≤ ns.length := by
      have := HLN.o mv HNM.o
      omega
     have hm4 := HE7.o.n4
     go_wp2_with fail
     refine (HND.o w7 nv gN cN HD7.o HNV.o).mono ?_
     rintro e w8 ⟨rfl, hb8⟩
     have hba := below_alloc w8 (.cells #[.int .i64 0, .string ⟨#[]⟩, .slice none 0 0, .slice none 0 0] 25)
     have HB10 := hq (below_trans (below_trans HB7.o hb8) hba)
     have HD10 := hq ((HD7.o.grow hb8).grow hba)
     have HX10 := hq ((HX7.o.grow hb8).grow hba)
     have HE10 := hq ((HE7.o.grow hb8).grow hba)
     have HY10 := hq ((HY7.o.grow hb8).grow hba)
     have HZ10 := hq (Whole.made w8 25 #[.int .i64 0, .string ⟨#[]⟩, .slice none 0 0, .slice none 0 0])
     clear hb8 hba HB7 HD7 HX7 HE7 HY7 HND x0 x1
     go_upto_region 10 with fail
     generalize (w8.alloc (.cells #[.int .i64 0, .string ⟨#[]⟩, .slice none 0 0, .slice none 0 0] 25)) = W2 at *
     generalize w8.heap.size = g15 at *
     have y0 := HY10.o.at_ 0
     have y1 := HY10.o.at_ 1
     obtain ⟨z0, z1, z2, z3⟩ := four_cells HZ10.o
     have k5 : ¬ (0 : Int) ≤ k ∨ ((0 : Int) ≤ k ∧ ¬ k < (mv.length : Int)) := by omega
     rcases k5 with k5 | ⟨k5, k6⟩
     · clear hk
       go_wp2_with fail
       go_region
       clear z0 z1 z2 z3 y0 y1
       have hdr : Below W2.heap.size W2 W2.drew := (Below.refl W2.heap.size W2).drew
       replace HB10 := hq (below_trans HB10.o hdr)
       replace HD10 := hq (HD10.o.grow hdr)
       replace HX10 := hq (HX10.o.grow hdr)
       replace HE10 := hq (HE10.o.grow hdr)
       replace HY10 := hq (HY10.o.grow hdr)
       clear hdr HZ10
       generalize W2.drew = W3 at *
       have x0 := HX10.o.at_ 0
       have x1 := HX10.o.at_ 1
       go_wp2_with fail
       refine (HAT.o _ HB10.o nv gN cN HD10.o HNV.o HPV.o).mono ?_
       rintro e w11 ⟨rfl, hb11⟩
       have HB11 := hq (below_trans HB10.o hb11)
       have HE11 := hq (HE10.o.grow hb11)
       have HY11 := hq (HY10.o.grow hb11)
       clear hb11 HB10 HD10 HX10 HE10 HY10 HAT x0 x1
       have y0 := HY11.o.at_ 0
       have y1 := HY11.o.at_ 1
       go_wp2_with fail
       refine (HAR.o w11 HB11.o mv gM cM HE11.o HNM.o HPM.o).mono ?_
       rintro e w12 ⟨rfl, hb12⟩
       have HV := hq (HFI.o w12 (below_trans HB11.o hb12))
       clear hb12 HB11 HE11 HY11 HAR HFI y0 y1
       have e1 : ((an : Int) == (an : Int)) = true := beq_self_eq_true _
       have e2 : (ab == ab) = true := beq_self_eq_true _
       go_wp2_with fail
       first | exact HV.o | (go_ret; exact HV.o)
     · clear hk
       go_wp2_with fail
       go_region
       clear z0 z1 z2 z3 y0 y1
       have hdr : Below W2.heap.size W2 W2.drew := (Below.refl W2.heap.size W2).drew
       replace HB10 := hq (below_trans HB10.o hdr)
       replace HD10 := hq (HD10.o.grow hdr)
       replace HX10 := hq (HX10.o.grow hdr)
       replace HE10 := hq (HE10.o.grow hdr)
       replace HY10 := hq (HY10.o.grow hdr)
       clear hdr HZ10
       generalize W2.drew = W3 at *
       have x0 := HX10.o.at_ 0
       have x1 := HX10.o.at_ 1
       go_wp2_with fail
       refine (HAT.o _ HB10.o nv gN cN HD10.o HNV.o HPV.o).mono ?_
       rintro e w11 ⟨rfl, hb11⟩
       have HB11 := hq (below_trans HB10.o hb11)
       have HE11 := hq (HE10.o.grow hb11)
       have HY11 := hq (HY10.o.grow hb11)
       clear hb11 HB10 HD10 HX10 HE10 HY10 HAT x0 x1
       have y0 := HY11.o.at_ 0
       have y1 := HY11.o.at_ 1
       go_wp2_with fail
       refine (HAR.o w11 HB11.o mv gM cM HE11.o HNM.o HPM.o).mono ?_
       rintro e w12 ⟨rfl, hb12⟩
       have HV := hq (HFI.o w12 (below_trans HB11.o hb12))
       clear hb12 HB11 HE11 HY11 HAR HFI y0 y1
       have e1 : ((an : Int) == (an : Int)) = true := beq_self_eq_true _
       have e2 : (ab == ab) = true := beq_self_eq_true _
       go_wp2_with fail
       first | exact HV.o | (go_ret; exact HV.o)
end Go.Proofs.YtnlkokgekjlmmaaGreatDoor
