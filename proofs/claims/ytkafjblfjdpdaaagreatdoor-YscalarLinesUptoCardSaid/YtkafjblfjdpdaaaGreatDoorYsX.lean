/-
  WALK: Compact of a tree, by how much it holds; the law PrintParts, over its small case.
  WALK: yscalar.Write of a tree, by how much it holds.
-/
import Derived.Test.YtkafjblfjdpdaaaGreatDoorVtB
import Derived.Test.YtkafjblfjdpdaaaGreatDoorYsB
import Derived.Test.YtkafjblfjdpdaaaGreatDoorPrN
namespace Go.Proofs.YtkafjblfjdpdaaaGreatDoor
open Go.RowKit
theorem sum_memB {l:List Bs} {k:Bs} (h:k∈l):k.length+1≤(l.map fun k=>k.length+1).sum:=by
 induction l with
 |nil=>cases h
 |cons y l ih=>
  rw[List.map_cons,List.sum_cons]
  rcases List.mem_cons.1 h with rfl|h
  ·omega
  ·have:=ih h
   omega
theorem blks_mem {l:List Vl} {x:Vl} (h:x∈l):x.blk≤Vl.blks l:=by
 induction l with
 |nil=>cases h
 |cons y l ih=>
  rw[Vl.blks]
  rcases List.mem_cons.1 h with rfl|h
  ·omega
  ·have:=ih h
   omega
theorem blk_lim: ∀v:Vl,v.blk≤1048576→v.All Lim:=Vl.ind (fun k t ks is ih h=>by
 rw[Vl.blk]at h
 refine .mk _ _ _ _ ⟨by show t.length≤1048576;omega,fun x hx=>by have:=sum_memB (show x∈ks from hx);omega⟩ (fun x hx=>ih x hx (by have:=blks_mem hx;omega)))
theorem blk_size: ∀v:Vl,5*v.size≤v.blk:=Vl.ind (fun k t ks is ih=>by
 have key: ∀l:List Vl,(∀x∈l,x∈is)→5*Vl.sizes l≤Vl.blks l:=by
  intro l
  induction l with
  |nil=>intro _;exact Nat.le_refl _
  |cons x l ihl=>
   intro h
   have h1:=ih x (h x (by simp))
   have h2:=ihl (fun y hy=>h y (by simp[hy]))
   simp only[Vl.sizes,Vl.blks]
   omega
 have:=key is (fun x hx=>hx)
 simp only[Vl.size,Vl.blk]
 omega)
theorem zip_blk: ∀(ks xs:List Bs),((List.zipWith (memB false) ks xs).map List.length).sum+(List.zipWith (memB false) ks xs).length≤8*(ks.map fun k=>k.length+1).sum+(xs.map List.length).sum
 | [],xs=>by simp
 |k::ks,[]=>by simp
 |k::ks,x::xs=>by
  have h1:=zip_blk ks xs
  have h2:=qtB_len k
  have h3:(memB false k x).length=(qtB k).length+1+x.length:=by
   unfold memB
   simp
   omega
  simp only[List.zipWith_cons_cons,List.map_cons,List.sum_cons,List.length_cons]
  omega
theorem listB_noP(n lev:Nat)(o c:UInt8)(its:List Bs):(listB false n lev o c its).length≤(its.map List.length).sum+its.length+2:=by
 have h:=commaB_len (lnB false n (lev+1)) its
 have e: ∀n lev,lnB false n lev=[]:=fun _ _=>rfl
 unfold listB
 rw[e]at h
 rw[e,e]
 simp only[List.length_cons,List.length_append,List.length_nil,ite_self,Nat.zero_add,Nat.mul_one]at h ⊢
 omega
theorem prB_blk(n:Nat): ∀v:Vl,∀lev:Nat,(prB false n lev v).length+1≤8*v.blk:=Vl.ind (P:=fun v=> ∀lev:Nat,(prB false n lev v).length+1≤8*v.blk) (fun k t ks is ih lev=>by
 rw[prB_mk]
 simp only[Vl.blk]
 have hq:=qtB_len t
 have hit: ∀l:List Vl,(∀x∈l,x∈is)→((l.map (prB false n (lev+1))).map List.length).sum+l.length≤8*Vl.blks l:=by
  intro l
  induction l with
  |nil=>intro _;exact Nat.le_refl _
  |cons x l ihl=>
   intro h
   have h1:=ih x (h x (by simp)) (lev+1)
   have h2:=ihl (fun y hy=>h y (by simp[hy]))
   simp only[List.map_cons,List.sum_cons,List.length_cons,Vl.blks]
   omega
 have hi:=hit is (fun x hx=>hx)
 split
 ·simp only[List.length_cons,List.length_nil];omega
 ·split
  ·omega
  ·split
   ·have:=listB_noP n lev 91 93 (is.map (prB false n (lev+1)))
    rw[List.length_map]at this
    omega
   ·split
    ·have h1:=listB_noP n lev 123 125 (List.zipWith (memB false) ks (is.map (prB false n (lev+1))))
     have h2:=zip_blk ks (is.map (prB false n (lev+1)))
     omega
    ·omega)
theorem good_prokL {v:Vl}:Good v→v.All Lim→v.All PrOk:=Vl.ind (P:=fun v=>Good v→v.All Lim→v.All PrOk) (fun k t ks is ih hg hs=> .mk k t ks is (by
 obtain⟨h1,h2⟩:=hs.here
 simp only[Vl.t,Vl.ks]at h1 h2
 refine⟨fun h6=> ?_,?_,fun x hx=> ?_⟩
 ·simp only[Vl.k,Vl.ks,Vl.is]at h6 ⊢;exact(hg.obj h6).1
 ·simp only[Vl.t];omega
 ·simp only[Vl.ks]at hx;have:=h2 x hx;omega) (fun x hx=>ih x hx (hg.items x hx) (hs.items x hx))) v
theorem new_valueB(x:Vt)(ls:Bool)(n lev:Nat)(w:World)(hE:Env w)(hx:Fine x w)(hz:(prB ls n lev x.m).length≤140737488355328)(hn:n≤8)(hv:lev≤32)(hr:rightM x.m=true):
 Calls Tryz.prog 89 #[.pointer (some ⟨w.heap.size,0,none⟩),x.v,.int .i64 (lev:Int)] (w.alloc (.cells #[.pointer none,.slice none 0 0,.bool ls,.int .i64 (n:Int)] 100)) (NewP w.heap.size (prB ls n lev x.m) ls (n:Int) w):=by
 obtain⟨hg,h1,h2,_⟩:=right_good hr
 have hb0:=below_alloc w (.cells #[.pointer none,.slice none 0 0,.bool ls,.int .i64 (n:Int)] 100)
 have hp:Prn w.heap.size w.heap.size [] ls (n:Int) (w.alloc (.cells #[.pointer none,.slice none 0 0,.bool ls,.int .i64 (n:Int)] 100)):= .inl ⟨Nat.le_refl _,.slice none 0 0,heap_alloc_new w _,World.ownsRow_nil _ _ _ _⟩
 refine(pvalue w.heap.size ls n (by omega) hE.tab x [] lev _ hx.ok (good_prokL hg hx.lim) hb0 hp (by omega) (by simpa using hz)).mono ?_
 rintro e w' ⟨rfl,h3⟩
 exact⟨rfl,h3.1,hb0.trans h3.2.1⟩
set_option maxHeartbeats 8000000 in
set_option maxRecDepth 1000000 in
theorem pcompactB(x:Vt)(w:World)(hE:Env w)(hx:Fine x w)(hz:(prB false 0 0 x.m).length≤140737488355328):Calls Tryz.prog 48 #[x.v] w (TextP (compactM x.m) w):=by
 have HR:=hq (fun W (h:Below w.heap.size w W)=>vright_any x W (hE.grow h) (hx.ok.grow h) hx.lim (by have:=hx.sz;omega))
 have HV:=hq (fun (hr:rightM x.m=true) W (h:Below w.heap.size w W)=>new_valueB x false 0 0 W (hE.grow h) (hx.grow h) hz (by omega) (by omega) hr)
 have HN:=hq (fun (hr:rightM x.m=true)=>prB_ne false 0 0 hr)
 have HCM:Hq (compactM x.m=if rightM x.m=true then(prB false 0 0 x.m,0) else([],1)):=hq rfl
 have HP:Hq (∀(r:Bs×Int) W',compactM x.m=r→Below w.heap.size w W'→TextP (compactM x.m) w (.returned (.tuple #[.string (st r.1),.int .i64 r.2])) W'):=hq (fun r W' h1 h2=>by rw[h1];exact⟨rfl,h2⟩)
 generalize TextP (compactM x.m) w=PP at *
 generalize compactM x.m=CM at *
 generalize prB false 0 0 x.m=PB at *
 clear hE hx hz
 obtain⟨k,t,⟨ko,kc,kl⟩,o,c,is⟩:=x
 rw[Vt.v_mk']at *
 generalize (Vt.mk k t ⟨ko,kc,kl⟩ o c is).m=X at *
 have hb0:=below_alloc w (.cells #[.int .i64 k,.string (st t),.slice ko kl.length kc,.slice o is.length c] 26)
 have HB0:=hq hb0
 have HW0:=hq (Whole.made w 26 #[.int .i64 k,.string (st t),.slice ko kl.length kc,.slice o is.length c])
 clear hb0
 obtain⟨c0,c1,c2,c3⟩:=four_cells HW0.o
 go_enter Tryz.func48,Tryz.ntmps48
 go_wp2_with fail
 generalize w.heap.size=g at c0 c1 c2 c3 HW0
 generalize (w.alloc (.cells #[.int .i64 k,.string (st t),.slice ko kl.length kc,.slice o is.length c] 26))=V0 at *
 refine(HR.o V0 HB0.o).mono ?_
 rintro e w1 ⟨rfl,hb1⟩
 have HB1:=hq (below_trans HB0.o hb1)
 have HW1:=hq (HW0.o.grow hb1)
 obtain⟨d0,d1,d2,d3⟩:=four_cells HW1.o
 clear HR hb1 c0 c1 c2 c3
 by_cases hr:rightM X=true
 case neg=>
  have hf:rightM X=false:=by simpa using hr
  have HU:=hq (HP.o ([],1) w1 (by rw[HCM.o,if_neg hr]) HB1.o)
  rw[hf]
  clear HP HCM HV HN hr hf
  go_wp2_with fail
  first
   |exact HU.o
   |(go_ret
     exact HU.o)
 case pos=>
  have HE:Hq (CM=(PB,0)):=hq (by rw[HCM.o,if_pos hr])
  have HC:=hq (HV.o hr w1 HB1.o)
  have HNE:=hq (HN.o hr)
  rw[hr]
  clear HV HN HCM hr
  have h00:((0:Nat):Int)=0:=rfl
  rw[h00]at HC
  obtain⟨e0,e1,e2,e3⟩:=four_cells (HW1.o.alloc (.cells #[.pointer none,.slice none 0 0,.bool false,.int .i64 0] 100))
  clear h00
  go_wp2_with fail
  refine HC.o.mono ?_
  rintro e w2 ⟨rfl,h2,hb2⟩
  have HS:=hq (pString w1.heap.size w1.heap.size PB false 0 w2 h2 HNE.o)
  have HQ:=hq (fun W'=>HP.o (PB,0) W' HE.o)
  have HB2:=hq hb2
  clear HC HNE h2 hb2 HP HE d0 d1 d2 d3 e0 e1 e2 e3 HW1 HW0
  go_wp2_with fail
  refine HS.o.mono ?_
  rintro e w3 ⟨rfl,h3⟩
  have HU:=hq (HQ.o w3 (below_trans HB1.o (HB2.o.trans h3)))
  clear HS HQ HB2 h3
  go_wp2_with fail
  first
   |exact HU.o
   |(go_ret
     exact HU.o)
theorem leaf_okP(k:Int)(t:Bs)(W:World)(hk:-9223372036854775808≤k∧k≤9223372036854775807)(ht:t.length≤maxLen):(leafT k t).Ok W:=
 .mk _ _ _ _ _ _ hk ht ⟨Nat.le_refl _,Nat.zero_le _,StrsIn.nil _ _⟩ (fun x hx=>by cases hx) (Nat.le_refl _) (Nat.zero_le _) (fun i hi=>absurd hi (Nat.not_lt_zero i)) (fun i hi=>absurd hi (Nat.not_lt_zero i))
theorem leaf4_pri {k:Bs} (h:k.length≤1024)(W:World):Pri (leafT 4 k) W:=by
 refine⟨⟨leaf_okP 4 k W (by decide) (Nat.le_trans h (by decide)),?_,?_⟩,?_⟩<;>rw[leafT_m]
 ·exact .mk _ _ _ _ ⟨Nat.le_trans h (by decide),(fun x hx=>by cases hx)⟩ (fun x hx=>by cases hx)
 ·show (1:Nat)+0≤1000000
  decide
 ·exact .mk _ _ _ _ ⟨Nat.le_trans h (by decide),(fun x hx=>by cases hx)⟩ (fun x hx=>by cases hx)
end Go.Proofs.YtkafjblfjdpdaaaGreatDoor
namespace Go.Proofs.YtkafjblfjdpdaaaGreatDoor
open Go.RowKit
set_option maxHeartbeats 8000000 in
set_option maxRecDepth 1000000 in
theorem ywriteB_any(x:Vt)(w:World)(hE:Env w)(hm:mx w)(hx:Fine x w)(hsz:x.t.length≤1048576)(hz:(prB false 0 0 x.m).length≤1099511627776):Calls Tryz.prog 21 #[x.v] w (TextP (writeL x.m) w):=by
 have HCO:=hq (fun W (h:Below w.heap.size w W)=>pcompactB x W (hE.grow h) (hx.grow h) (by omega))
 have hxt:x.m.t=x.t:=by
  obtain⟨k,t,ks,o,c,is⟩:=x
  rw[Vt.m_mk]
  rfl
 have HBA:=hq (fun W (h:Below w.heap.size w W)=>ybare_any (st x.t) W (hE.grow h).tab (by rw[st_size];omega))
 have HRS:=hq (fun W (h:Below w.heap.size w W)=>yresolve_any (st x.t) W (hE.grow h) (by rw[st_size];omega))
 have HSF:Hq (rightM x.m=true→ ∀W,Below w.heap.size w W→Calls Tryz.prog 49 #[.string (st (prB false 0 0 x.m))] W fun e w'=>e= .returned (.string (st (safeL 0 (prB false 0 0 x.m))))∧Below W.heap.size W w'):=hq (fun hr W h=>by
  have:=ysafe_any (st (prB false 0 0 x.m)) W (vd_prB 0 x.m (rgt_of hr) 0).1.valid (by rw[st_size];omega)
  rwa [st_list]at this)
 have HIQ:Hq (rightM x.m=true→ ∀W,Below w.heap.size w W→Calls Tryz.prog 50 #[.string (st x.t),.string (st (prB false 0 0 x.m))] W fun e w'=>e= .returned (.string (st (inQ x.t (prB false 0 0 x.m))))∧Below W.heap.size W w'):=hq (fun hr W h=>by
  have:=yinQ_any (st x.t) (st (prB false 0 0 x.m)) W (hE.grow h).tab (mx_grow hm h) (by rw[st_size];omega) (by rw[st_size];omega) (vd_prB 0 x.m (rgt_of hr) 0).1.valid
  rwa [st_list,st_list]at this)
 rw[st_list]at HBA HRS
 have HCM:Hq (compactM x.m=if rightM x.m=true then(prB false 0 0 x.m,0) else([],1)):=hq rfl
 have HWM:Hq (writeL x.m=if rightM x.m=true then(if x.m.k=4 then(if bareL x.t=true∧(resolveL x.t).k=4 then x.t else inQ x.t (prB false 0 0 x.m)) else safeL 0 (prB false 0 0 x.m),0) else([],1)):=hq (by unfold writeL;rw[hxt])
 have HP:Hq (∀(r:Bs×Int) W',writeL x.m=r→Below w.heap.size w W'→TextP (writeL x.m) w (.returned (.tuple #[.string (st r.1),.int .i64 r.2])) W'):=hq (fun r W' h1 h2=>by rw[h1];exact⟨rfl,h2⟩)
 generalize TextP (writeL x.m) w=PP at *
 generalize compactM x.m=CM at *
 generalize writeL x.m=WM at *
 generalize prB false 0 0 x.m=PB at *
 generalize safeL 0 PB=SF at *
 clear hE hx hsz hxt hm hz
 obtain⟨k,t,⟨ko,kc,kl⟩,o,c,is⟩:=x
 rw[Vt.v_mk']at *
 have hk:(Vt.mk k t ⟨ko,kc,kl⟩ o c is).m.k=k:=by rw[Vt.m_mk];rfl
 rw[hk]at HWM
 have ht:(Vt.mk k t ⟨ko,kc,kl⟩ o c is).t=t:=rfl
 rw[ht]at HWM HBA HRS HIQ
 generalize (Vt.mk k t ⟨ko,kc,kl⟩ o c is).m=X at *
 clear hk ht
 generalize inQ t PB=IQ at *
 generalize bareL t=BL at *
 generalize hRV:resolveL t=RV at *
 clear hRV
 have hb0:=below_alloc w (.cells #[.int .i64 k,.string (st t),.slice ko kl.length kc,.slice o is.length c] 26)
 have HB0:=hq hb0
 have HW0:=hq (Whole.made w 26 #[.int .i64 k,.string (st t),.slice ko kl.length kc,.slice o is.length c])
 clear hb0
 obtain⟨c0,c1,c2,c3⟩:=four_cells HW0.o
 go_enter Tryz.func21,Tryz.ntmps21
 go_wp2_with fail
 generalize w.heap.size=g at c0 c1 c2 c3 HW0
 generalize (w.alloc (.cells #[.int .i64 k,.string (st t),.slice ko kl.length kc,.slice o is.length c] 26))=V0 at *
 refine(HCO.o V0 HB0.o).mono ?_
 rintro e w1 ⟨rfl,hb1⟩
 have HB1:=hq (below_trans HB0.o hb1)
 have HW1:=hq (HW0.o.grow hb1)
 obtain⟨d0,d1,d2,d3⟩:=four_cells HW1.o
 clear HCO hb1 c0 c1 c2 c3
 by_cases hr:rightM X=true
 case neg=>
  have HU:=hq (HP.o ([],1) w1 (by rw[HWM.o,if_neg hr]) HB1.o)
  have hc:CM=([],1):=by rw[HCM.o,if_neg hr]
  subst hc
  clear HP HCM HWM HBA HRS HSF HIQ hr
  go_wp2_with fail
  first
   |exact HU.o
   |(go_ret2
     exact HU.o)
 case pos=>
  have hc:CM=(PB,0):=by rw[HCM.o,if_pos hr]
  have HW2:=hq (HWM.o.trans (if_pos hr))
  have HS2:=hq (HSF.o hr)
  have HI2:=hq (HIQ.o hr)
  subst hc
  clear HCM HWM HSF HIQ hr
  by_cases h4:k=4
  ·have e1:(k !=4)=false:=by rw[h4];rfl
   rw[if_pos h4]at HW2
   clear h4 HS2
   cases BL with
   |false=>
    have HU:=hq (fun W' h=>HP.o (IQ,0) W' (by rw[HW2.o,if_neg (fun h=>by cases h.1)]) h)
    clear HP HW2 HRS
    go_wp2_with fail
    refine(HBA.o _ HB1.o).mono ?_
    rintro e w2 ⟨rfl,hb2⟩
    have HB2:=hq (below_trans HB1.o hb2)
    have HW3:=hq (HW1.o.grow hb2)
    clear d0 d1 d2 d3 hb2 HBA
    obtain⟨d0,d1,d2,d3⟩:=four_cells HW3.o
    go_wp2_with fail
    refine(HI2.o _ HB2.o).mono ?_
    rintro e w3 ⟨rfl,hb3⟩
    have HB3:=hq (below_trans HB2.o hb3)
    clear d0 d1 d2 d3 hb3 HI2
    go_wp2_with fail
    first
     |exact HU.o _ HB3.o
     |(go_ret2
       exact HU.o _ HB3.o)
   |true=>
    obtain⟨rk,rt,rks,ris⟩:=RV
    have hfd: ∀W:World,(Instr.field 26 (.agg #[.int .i64 rk,.string (st rt),.slice none 0 0,.slice none 0 0]) 0).run Tryz.prog W= .ok (.int .i64 rk) W:=fun _=>by kernel_rfl
    by_cases hrk:rk=4
    ·have HU:=hq (fun W' h=>HP.o (t,0) W' (by rw[HW2.o,if_pos ⟨rfl,hrk⟩]) h)
     have e2:(rk==4)=true:=by rw[hrk];rfl
     clear HP HW2 hrk HI2
     go_wp2_with fail
     refine(HBA.o _ HB1.o).mono ?_
     rintro e w2 ⟨rfl,hb2⟩
     have HB2:=hq (below_trans HB1.o hb2)
     have HW3:=hq (HW1.o.grow hb2)
     clear d0 d1 d2 d3 hb2 HBA
     obtain⟨d0,d1,d2,d3⟩:=four_cells HW3.o
     go_wp2_with fail
     refine(HRS.o _ HB2.o).mono ?_
     rintro e w3 ⟨rfl,hb3⟩
     have HB3:=hq (below_trans HB2.o hb3)
     have HW4:=hq (HW3.o.grow hb3)
     clear d0 d1 d2 d3 hb3 HRS
     obtain⟨d0,d1,d2,d3⟩:=four_cells HW4.o
     simp only[Vl.k,Vl.t]
     go_wp2_with fail
     first
      |exact HU.o _ HB3.o
      |(go_ret2
        exact HU.o _ HB3.o)
    ·have HU:=hq (fun W' h=>HP.o (IQ,0) W' (by rw[HW2.o,if_neg (fun h=>hrk h.2)]) h)
     have e2:(rk==4)=false:=beq_eq_false_iff_ne.2 hrk
     clear HP HW2 hrk
     go_wp2_with fail
     refine(HBA.o _ HB1.o).mono ?_
     rintro e w2 ⟨rfl,hb2⟩
     have HB2:=hq (below_trans HB1.o hb2)
     have HW3:=hq (HW1.o.grow hb2)
     clear d0 d1 d2 d3 hb2 HBA
     obtain⟨d0,d1,d2,d3⟩:=four_cells HW3.o
     go_wp2_with fail
     refine(HRS.o _ HB2.o).mono ?_
     rintro e w3 ⟨rfl,hb3⟩
     have HB3:=hq (below_trans HB2.o hb3)
     have HW4:=hq (HW3.o.grow hb3)
     clear d0 d1 d2 d3 hb3 HRS
     obtain⟨d0,d1,d2,d3⟩:=four_cells HW4.o
     simp only[Vl.k,Vl.t]
     go_wp2_with fail
     refine(HI2.o _ HB3.o).mono ?_
     rintro e w4 ⟨rfl,hb4⟩
     have HB4:=hq (below_trans HB3.o hb4)
     clear d0 d1 d2 d3 hb4 HI2
     go_wp2_with fail
     first
      |exact HU.o _ HB4.o
      |(go_ret2
        exact HU.o _ HB4.o)
  ·have e1:(k !=4)=true:=bne_iff_ne.2 h4
   rw[if_neg h4]at HW2
   have HU:=hq (fun W' h=>HP.o (SF,0) W' HW2.o h)
   clear h4 HP HW2 HBA HRS HI2
   go_wp2_with fail
   refine(HS2.o _ HB1.o).mono ?_
   rintro e w2 ⟨rfl,hb2⟩
   have HB2:=hq (below_trans HB1.o hb2)
   clear hb2 HS2
   go_wp2_with fail
   first
    |exact HU.o _ HB2.o
    |(go_ret2
      exact HU.o _ HB2.o)
end Go.Proofs.YtkafjblfjdpdaaaGreatDoor
