/-
  WALKS: the document's utf, decimal, node, nodes, Open, Right of layer 6.
  WALKS: the document's nodes, Open, Right, at, Get, Copy, Of, Num of layer 6.
  WALK: the document's Get of layer 6.
-/
import Derived.Test.YtkafjblfjdpdaaaGreatDoorVtNT
import Derived.Test.YtkafjblfjdpdaaaGreatDoorQuoteW
import Derived.Test.YtkafjblfjdpdaaaGreatDoorVsC
import Derived.Test.YtkafjblfjdpdaaaGreatDoorVtUB
namespace Go.Proofs.YtkafjblfjdpdaaaGreatDoor
open Go.RowKit
set_option maxRecDepth 1000000 in
theorem rutf_any(s:ByteArray)(w:World)(hs:s.size≤maxLen):Calls Tryz.prog 176 #[.string s] w (BPost (valid s).2 w):=by
 have HV:=hq (fun W=>rvalid_any s W hs)
 have HP:Hq (BPost (valid s).2 w (.returned (.bool (valid s).2)) w):=hq ⟨rfl,Below.refl _ _⟩
 generalize BPost (valid s).2 w=PP at *
 go_enter Tryz.func176,Tryz.ntmps176
 go_wp2_with fail
 refine(HV.o w).mono ?_
 rintro e w2 ⟨rfl,h⟩
 subst h
 go_wp2_with fail
 exact HP.o
set_option maxHeartbeats 8000000 in
set_option maxRecDepth 1000000 in
theorem rdecV_any(t:Bs)(w:World)(ht:t.length≤1048576):Calls Tryz.prog 175 #[.string (st t)] w (DecP t w):=by
 have HPR:=hq (fun W=>rparse_any t W (by omega))
 have HP:Hq (∀(b:Bool) W',b=decM t→Below w.heap.size w W'→DecP t w (.returned (.tuple #[(numT t).val,.bool b])) W'):=hq (fun b W' h h2=>⟨by rw[h],h2⟩)
 have HD:Hq (decM t=(decide ((parseM t).2=0)&&decide (textM (parseM t).1=t))):=hq rfl
 unfold numT at HP
 have HRT:=hq (@parseM_right t)
 unfold PPost at HPR
 generalize DecP t w=PP at *
 generalize decM t=DM at *
 cases hpm:parseM t with|mk d er=>
 rw[hpm]at HD HP HPR
 have HR:=hq (fun (h:er=0)=>HRT.o (m:=d) (by rw[hpm,h]))
 obtain⟨neg,D,E⟩:=d
 simp only[Dec.val]at HP HPR HD HR
 clear hpm HRT
 go_enter Tryz.func175,Tryz.ntmps175
 go_wp2_with fail
 refine(HPR.o _).mono ?_
 rintro e w2 ⟨rfl,hb2⟩
 have hb0:=below_alloc w (.cells #[.bool false,.string ⟨#[]⟩,.int .i64 0] 59)
 have HB2:=hq (below_trans hb0 hb2)
 have HWr:=hq ((Whole.made w 59 #[.bool false,.string ⟨#[]⟩,.int .i64 0]).grow hb2)
 have hgr:w.heap.size<w2.heap.size:=HWr.o.lt
 clear hb0 hb2 HPR
 go_upto_region 2 with fail
 have hb3:=below_alloc w2 (.cells #[.bool neg,.string (st D),.int .i64 E] 59)
 have HB3:=hq (below_trans HB2.o hb3)
 have HWr3:=hq (HWr.o.grow hb3)
 have HWn3:=hq (Whole.made w2 59 #[.bool neg,.string (st D),.int .i64 E])
 clear hb3 HWr HB2
 generalize w2.alloc (.cells #[.bool neg,.string (st D),.int .i64 E] 59)=W3 at *
 generalize w2.heap.size=gn at *
 have hgw:w.heap.size≤w.heap.size:=Nat.le_refl _
 obtain⟨gr,HGR⟩: ∃gr,Hq (gr=w.heap.size):=⟨_,hq rfl⟩
 rw[←HGR.o]at hgr HWr3 ⊢
 obtain⟨n0,n1,n2⟩:=three_cells HWn3.o
 obtain⟨z0,z1,z2⟩:=three_cells HWr3.o
 have f0:=HWr3.o.free 0
 have f1:=HWr3.o.free 1
 have f2:=HWr3.o.free 2
 by_cases her:er=0
 case neg=>
  have e1:(er==0)=false:=beq_eq_false_iff_ne.2 her
  have HV:=hq (HP.o false ((((W3.setCell ⟨gr,0,none⟩ (.bool neg)).setCell ⟨gr,1,none⟩ (.string (st D))).setCell ⟨gr,2,none⟩ (.int .i64 E)).drew) (by rw[HD.o,decide_eq_false her];rfl) (below_put3 HB3.o (by rw[HGR.o];exact Nat.le_refl _) _ _ _).drew)
  clear HP HD HR her
  go_wp2_with fail
  go_region
  all_goals
   go_wp2_with fail
  all_goals
   refine bodyPost_ret (v:= .tuple #[.agg #[.bool neg,.string (st D),.int .i64 E],.bool false]) ?_ rfl HV.o
   simp[results,Tryz.results175,go_sem,z0,z1,z2]
 case pos=>
  have e1:(er==0)=true:=beq_iff_eq.2 her
  have hr:=HR.o her
  have hbd:=right_bd hr
  have HTX:=hq (fun V (_hV:Below w.heap.size w V)=>rtext_any neg D E V (by omega) (by omega))
  generalize hTM:textM ⟨neg,D,E⟩=TM at *
  have HDM:Hq (DM=(TM==t)):=hq (by rw[HD.o,decide_eq_true her,Bool.true_and];by_cases h:TM=t<;>simp[h])
  have HA:=hq (HB3.o.drew)
  have HS:=hq ((below_put3 HB3.o (show w.heap.size≤gr by rw[HGR.o];exact Nat.le_refl _) (.bool neg) (.string (st D)) (.int .i64 E)).drew)
  have HWs:=hq (whole_put3 HWr3.o (.bool neg) (.string (st D)) (.int .i64 E))
  have HWm:=hq (whole_far3 HWn3.o (show gn≠gr by omega) (.bool neg) (.string (st D)) (.int .i64 E))
  have HSET:=hq (fun (V:World) (h:Below w.heap.size w V)=>below_put3 h (show w.heap.size≤gr by rw[HGR.o];exact Nat.le_refl _) (.bool neg) (.string (st D)) (.int .i64 E))
  obtain⟨m0,m1,m2⟩:=three_cells HWm.o
  clear HD HR her hr hTM
  go_wp2_with fail
  go_region_law ((go_simp
                  go_at_call 45
                  first
                  |(refine(HTX.o W3.drew HA.o).mono ?_
                    rintro e9 w9 ⟨rfl,hb8⟩
                    have HB9:=hq (below_trans HA.o hb8)
                    have hb9:=below_trans (Below.refl W3.heap.size W3).drew hb8
                    obtain⟨p0,p1,p2⟩:=three_cells (HWn3.o.grow hb9)
                    obtain⟨q0,q1,q2⟩:=three_cells (HWr3.o.grow hb9)
                    have g0:=(HWr3.o.grow hb9).free 0
                    have g1:=(HWr3.o.grow hb9).free 1
                    have g2:=(HWr3.o.grow hb9).free 2)
                  |(refine(HTX.o _ HS.o).mono ?_
                    rintro e9 w9 ⟨rfl,hb8⟩
                    have HB9:=hq (below_trans HS.o hb8)
                    have hb9:=below_trans (Below.refl _ (((W3.setCell ⟨gr,0,none⟩ (.bool neg)).setCell ⟨gr,1,none⟩ (.string (st D))).setCell ⟨gr,2,none⟩ (.int .i64 E))).drew hb8
                    obtain⟨p0,p1,p2⟩:=three_cells (HWm.o.grow hb9)
                    obtain⟨q0,q1,q2⟩:=three_cells (HWs.o.grow hb9)
                    have g0:=(HWs.o.grow hb9).free 0
                    have g1:=(HWs.o.grow hb9).free 1
                    have g2:=(HWs.o.grow hb9).free 2)))
  all_goals
   go_wp2_with fail
  all_goals
   first
   |(refine bodyPost_ret (v:= .tuple #[.agg #[.bool neg,.string (st D),.int .i64 E],.bool (TM==t)]) ?_ rfl (HP.o _ _ HDM.o.symm HB9.o)
     simp[results,Tryz.results175,go_sem,q0,q1,q2]
     done)
   |(refine bodyPost_ret (v:= .tuple #[.agg #[.bool neg,.string (st D),.int .i64 E],.bool (TM==t)]) ?_ rfl (HP.o _ _ HDM.o.symm (HSET.o _ HB9.o))
     simp[results,Tryz.results175,go_sem,q0,q1,q2]
     done)
def membersR(ks:List Bs)(n:Nat):Bool:=decide (ks.length=n)&&(ks.all (fun k=>(valid (st k)).2)&&decide ks.Nodup)
def nodeR(v:Vl):Bool:=
 if v.k=5 then decide (v.t=[])&&decide (v.ks=[])
 else if v.k=6 then decide (v.t=[])&&membersR v.ks v.is.length
 else(decide (v.ks=[])&&decide (v.is=[]))&&scalarM v.k v.t
theorem nodeR_mk(k:Int)(t:Bs)(ks:List Bs)(is:List Vl):nodeR (.mk k t ks is)=if k=5 then decide (t=[])&&decide (ks=[]) else if k=6 then decide (t=[])&&membersR ks is.length else(decide (ks=[])&&decide (is=[]))&&scalarM k t:=rfl
theorem nodeR_eq {v:Vl} (h:v.size≤4096):nodeR v=nodeM v:=by
 obtain⟨k,t,ks,is⟩:=v
 rw[nodeR_mk,nodeM_mk]
 have h1:=Vl.sizes_length is
 simp only[Vl.size]at h
 have e:membersR ks is.length=membersM ks is.length:=by
  unfold membersR membersM
  by_cases hl:ks.length=is.length
  ·rw[decide_eq_true (show ks.length≤4096 by omega),Bool.true_and]
  ·rw[decide_eq_false hl];rfl
 rw[e]
theorem allR_eq(q:Vl→Bool): ∀v:Vl,v.size≤4096→v.allB (fun x=>nodeR x&&q x)=v.allB (fun x=>nodeM x&&q x):=Vl.ind (fun k t ks is ih h=>by
 simp only[Vl.allB]
 rw[nodeR_eq h]
 congr 1
 rw[Bool.eq_iff_iff,Vl.allsB_iff,Vl.allsB_iff]
 simp only[Vl.size]at h
 constructor
 ·intro h2 x hx
  have h3:=Vl.sizes_le x hx
  rw[←ih x hx (by omega)];exact h2 x hx
 ·intro h2 x hx
  have h3:=Vl.sizes_le x hx
  rw[ih x hx (by omega)];exact h2 x hx)
def KeyOk(ks:List Bs)(j:Nat):Prop:= ∀i (_:i<j) (hl:i<ks.length),(valid (st ks[i])).2=true∧ ∀q (hq:q<i),ks[q]≠ks[i]
theorem KeyOk.zero(ks:List Bs):KeyOk ks 0:=fun i h _=>absurd h (Nat.not_lt_zero i)
theorem KeyOk.step {ks:List Bs} {j:Nat} (h:KeyOk ks j)(hj:j<ks.length)(hv:(valid (st ks[j])).2=true)(hd: ∀q (hq:q<j),ks[q]≠ks[j]):KeyOk ks (j+1):=fun i hi hl=>by
 by_cases e:i=j
 ·subst e;exact⟨hv,hd⟩
 ·exact h i (by omega) hl
theorem KeyOk.all {ks:List Bs} (h:KeyOk ks ks.length):(ks.all (fun k=>(valid (st k)).2)&&decide ks.Nodup)=true:=by
 simp only[Bool.and_eq_true,List.all_eq_true,decide_eq_true_eq]
 refine⟨fun x hx=> ?_,?_⟩
 ·obtain ⟨i,hi,rfl⟩:=List.mem_iff_getElem.1 hx
  exact(h i hi hi).1
 ·exact List.pairwise_iff_getElem.2 (fun i j hi hj hij=>(h j hj hj).2 i hij)
theorem keys_bad {ks:List Bs} {j:Nat} (hj:j<ks.length)(hv:(valid (st ks[j])).2=false):(ks.all (fun k=>(valid (st k)).2)&&decide ks.Nodup)=false:=by
 cases h:ks.all (fun k=>(valid (st k)).2) with
 |false=>rfl
 |true=>rw[List.all_eq_true]at h;have:=h _ (List.getElem_mem hj);rw[hv]at this;cases this
theorem keys_dup {ks:List Bs} {q j:Nat} (hj:j<ks.length)(hq:q<j)(he:ks[q]=ks[j]):(ks.all (fun k=>(valid (st k)).2)&&decide ks.Nodup)=false:=by
 have: ¬ks.Nodup:=fun h=>List.pairwise_iff_getElem.1 h q j (by omega) hj hq he
 rw[decide_eq_false this,Bool.and_false]
set_option maxHeartbeats 16000000 in
set_option maxRecDepth 1000000 in
theorem rnode_any(x:Vt)(w:World)(hok:x.Ok w)(ht:x.t.length≤1048576)(hs: ∀k∈x.ks.l,k.length≤1048576):Calls Tryz.prog 139 #[x.v] w (BPost (nodeR x.m) w):=by
 obtain⟨k,t,⟨ko,kc,kl⟩,o,c,is⟩:=x
 have hn:=hok.hl
 have hc:=hok.hc
 have hkl:kl.length≤kc:=hok.hks.le
 have hkc:kc≤maxLen:=hok.hks.cp
 unfold maxLen at hc hkc
 rw[Vt.m_mk,nodeR_mk,List.length_map]
 rw[Vt.v_mk']at *
 simp only[Vt.ks,Vt.t]at *
 have hie:decide (is.map Vt.m=[])=decide (is=[]):=decide_eq_decide.2 List.map_eq_nil_iff
 rw[hie]
 clear hie
 generalize hX:(if k=5 then decide (t=[])&&decide (kl=[]) else if k=6 then decide (t=[])&&membersR kl is.length else(decide (kl=[])&&decide (is=[]))&&scalarM k t)=X at *
 have HX:=hq hX.symm
 have HP:Hq (∀(b:Bool) W',X=b→Below w.heap.size w W'→BPost X w (.returned (.bool b)) W'):=hq (fun b W' h h2=>⟨by rw[h],h2⟩)
 generalize BPost X w=PP at *
 have hb0:=below_alloc w (.cells #[.int .i64 k,.string (st t),.slice ko kl.length kc,.slice o is.length c] 26)
 have HW0:=hq (Whole.made w 26 #[.int .i64 k,.string (st t),.slice ko kl.length kc,.slice o is.length c])
 have HB0:=hq hb0
 have HOK:=hq hok
 have HKS:=hq hs
 clear hok hb0 hs hX
 go_enter Tryz.func139,Tryz.ntmps139
 go_upto_region 1 with fail
 generalize w.heap.size=g at HW0
 generalize (w.alloc (.cells #[.int .i64 k,.string (st t),.slice ko kl.length kc,.slice o is.length c] 26))=V0 at *
 have hVg:=hq (fun wr (hb:Below V0.heap.size V0 wr)=>four_cells (HW0.o.grow hb))
 obtain⟨c0,c1,c2,c3⟩:=hVg.o V0 (Below.refl _ _)
 by_cases h6:k=6
 case pos=>
  subst h6
  have HX6:Hq (X=(decide (t=[])&&(decide (kl.length=is.length)&&(kl.all (fun k=>(valid (st k)).2)&&decide kl.Nodup)))):=hq (HX.o.trans (by rw[if_neg (by decide),if_pos rfl];rfl))
  clear HX
  go_wp2_with fail
  clear c0 c1 c2 c3
  go_loopw [9,10,11] (fun i _ _ wr=> ∃j:Nat,j≤kl.length∧i= .int .i64 (j:Int)∧Hq (KeyOk kl j)∧Hq (Below V0.heap.size V0 wr)) (fun i _ _ _=>kl.length-(intOf i).toNat)
  case atStart=>exact⟨0,Nat.zero_le _,rfl,hq (KeyOk.zero _),hq (Below.refl _ _)⟩
  case round=>
   obtain⟨j,hj,rfl,hko,hb⟩:=hrel
   obtain⟨c0,c1,c2,c3⟩:=hVg.o wr hb.o
   by_cases h:j<kl.length
   ·have hzj:(j:Int)<(kl.length:Int):=by omega
    obtain⟨b,f,ho,i0⟩:=(HOK.o.grow (below_trans HB0.o hb.o)).hks.rd j h
    simp only at ho i0
    have hkx:=HKS.o kl[j] (List.getElem_mem h)
    have HUT:=hq (fun W=>rutf_any (st kl[j]) W (by rw[st_size];unfold maxLen;omega))
    have HBAD:=hq (@keys_bad kl j h)
    have HSTP:=hq (hko.o.step h)
    have HDUP:=hq (fun q (hq':q<j) (he:kl[q]=kl[j])=>keys_dup h hq' he)
    have HRD:=hq (fun wr' (hb':Below V0.heap.size V0 wr') q (hq':q<kl.length)=>(HOK.o.grow (below_trans HB0.o hb')).hks.rd q hq')
    have HO:=hq ho
    have HI0:=hq i0
    clear i0
    generalize hkj:kl[j]=kx at *
    have HKJ:=hq hkj
    clear hkj
    subst ho
    have i0:=HI0.o
    go_wp2_with fail
    refine(HUT.o wr).mono ?_
    rintro e w2 ⟨rfl,hb2⟩
    have HB2:=hq (below_trans hb.o hb2)
    clear hb2 c0 c1 c2 c3 i0
    obtain⟨c0,c1,c2,c3⟩:=hVg.o w2 HB2.o
    cases hvb:(valid (st kx)).2 with
    |false=>
     have HV:=hq (HP.o false w2 (by rw[HX6.o,HBAD.o hvb,Bool.and_false,Bool.and_false]) (below_trans HB0.o HB2.o))
     clear HP HX6 HBAD HSTP HDUP HRD hvb
     go_wp2_with fail
     exact HV.o
    |true=>
     have HST2:=hq (HSTP.o hvb)
     clear HBAD HSTP hvb
     go_wp2_with fail
     clear c0 c1 c2 c3
     obtain⟨wo,hwo⟩: ∃wo,wo=wr:=⟨_,rfl⟩
     subst hwo
     go_loopw [11] (fun i wy=> ∃q:Nat,q≤j∧i= .int .i64 (q:Int)∧Hq (∀q' (_:q'<q) (hl:q'<kl.length),kl[q']≠kx)∧Hq (Below V0.heap.size V0 wy)) (fun i _=>j-(intOf i).toNat)
     case atStart=>exact⟨0,Nat.zero_le _,rfl,hq (fun q' h _=>absurd h (Nat.not_lt_zero _)),HB2⟩
     case round=>
      clear hb
      obtain⟨q,hq1,rfl,hdn,hb⟩:=hrel
      obtain⟨c0,c1,c2,c3⟩:=hVg.o wr hb.o
      by_cases h':q<j
      ·have hzq:(q:Int)<(j:Int):=by omega
       have hql:q<kl.length:=by omega
       have hzl:(q:Int)<(kl.length:Int):=by omega
       obtain⟨b1,f1,ho1,k0⟩:=HRD.o wr hb.o q hql
       obtain⟨b2,f2,ho2,k1⟩:=HRD.o wr hb.o j h
       injection ho1 with ho1
       injection ho2 with ho2
       injection ho1 with e1 e2
       injection ho2 with e3 e4
       subst e1 e2 e3 e4
       rw[HKJ.o]at k1
       have HDQ:=hq (HDUP.o q h')
       have HNQ:Hq (kl[q]≠kx→ ∀q' (_:q'<q+1) (hl:q'<kl.length),kl[q']≠kx):=hq (fun hne q' hlt hl=>by
        by_cases e:q'=q
        ·subst e;exact hne
        ·exact hdn.o q' (by omega) hl)
       generalize kl[q]=ky at *
       by_cases hyx:ky=kx
       ·have e1:(ky==kx)=true:=beq_iff_eq.2 hyx
        have HV:=hq (fun n=>HP.o false (wr.drewN n) (by rw[HX6.o,HDQ.o hyx,Bool.and_false,Bool.and_false]) (below_trans HB0.o (below_drawnR hb.o n)))
        clear HP HX6 HDQ HNQ HDUP HRD hyx HST2 hdn
        go_wp2_with fail
        go_quiet (fail)
        go_wp2_with fail
        exact HV.o _
       ·have e1:(ky==kx)=false:=beq_eq_false_iff_ne.2 hyx
        have HD:=hq (fun n=>below_drawnR hb.o n)
        have HN2:=hq (HNQ.o hyx)
        clear HP HX6 HDQ HNQ HDUP HRD hyx HST2 hdn
        go_wp2_with fail
        go_quiet (fail)
        go_wp2_with fail
        go_roundw
        case rel=>exact⟨q+1,h',int_eq (by omega),HN2,hq (HD.o _)⟩
        case measure=>simp[intOf];omega
      ·have hzq: ¬(q:Int)<(j:Int):=by omega
       have HK2:=hq (HST2.o (fun q' hq'=>hdn.o q' (by omega) (by omega)))
       clear HDUP HRD HST2 hdn HP HX6
       go_wp2_with fail
       go_roundw
       case rel=>exact⟨j+1,h,int_eq (by omega),HK2,hb⟩
       case measure=>simp[intOf];omega
   ·have hzj: ¬(j:Int)<(kl.length:Int):=by omega
    have HX7:Hq (X=(decide (t=[])&&decide (kl.length=is.length))):=hq (by
     have h1:=hko.o
     rw[show j=kl.length by omega]at h1
     rw[HX6.o,h1.all,Bool.and_true])
    clear hko HX6
    by_cases h1:t=[]
    ·have e1:(t==([]:Bs))=true:=beq_iff_eq.2 h1
     by_cases h2:kl.length=is.length
     ·have e2:((kl.length:Int)==(is.length:Int))=true:=beq_iff_eq.2 (by omega)
      have HV:=hq (HP.o true wr (by rw[HX7.o,decide_eq_true h1,decide_eq_true h2];rfl) (below_trans HB0.o hb.o))
      clear HX7 HP h1 h2
      go_wp2_with fail
      exact HV.o
     ·have e2:((kl.length:Int)==(is.length:Int))=false:=beq_eq_false_iff_ne.2 (by omega)
      have HV:=hq (HP.o false wr (by rw[HX7.o,decide_eq_true h1,decide_eq_false h2];rfl) (below_trans HB0.o hb.o))
      clear HX7 HP h1 h2
      go_wp2_with fail
      exact HV.o
    ·have e1:(t==([]:Bs))=false:=beq_eq_false_iff_ne.2 h1
     have HV:=hq (HP.o false wr (by rw[HX7.o,decide_eq_false h1];rfl) (below_trans HB0.o hb.o))
     clear HX7 HP h1
     go_wp2_with fail
     exact HV.o
 case neg=>
 have e6:(k==6)=false:=beq_eq_false_iff_ne.2 h6
 have n6:(k !=6)=true:=bne_iff_ne.2 h6
 clear HKS
 by_cases h1:kl=[]
 case neg=>
  have e1:(0:Int)<(kl.length:Int):=by
   have:kl.length≠0:=fun h=>h1 (List.length_eq_zero_iff.1 h)
   omega
  have e1n:0<kl.length:=by omega
  have HV:=hq (HP.o false V0 (by
   rw[HX.o,decide_eq_false h1,if_neg h6]
   by_cases h5:k=5
   ·rw[if_pos h5,Bool.and_false]
   ·rw[if_neg h5];rfl) HB0.o)
  clear HX HP h1 h6 HOK
  go_wp2_with fail
  exact HV.o
 subst h1
 simp only[List.length_nil]at *
 by_cases h5:k=5
 ·have e5:(k==5)=true:=beq_iff_eq.2 h5
  have n5:(k !=5)=false:=by rw[bne,e5];rfl
  have f1:(k==1)=false:=beq_eq_false_iff_ne.2 (by omega)
  have HV:=hq (HP.o (List.isEmpty t) V0 (by
   rw[HX.o,if_pos h5]
   cases t<;>rfl) HB0.o)
  clear HX HP h5 h6 HOK
  go_wp2_with fail
  exact HV.o
 have e5:(k==5)=false:=beq_eq_false_iff_ne.2 h5
 have n5:(k !=5)=true:=bne_iff_ne.2 h5
 have HX6':Hq (X=(decide (is=[])&&scalarM k t)):=hq (by rw[HX.o,if_neg h5,if_neg h6];rfl)
 clear HX
 by_cases h2:is=[]
 case neg=>
  have e2:(0:Int)<(is.length:Int):=by
   have:is.length≠0:=fun h=>h2 (List.length_eq_zero_iff.1 h)
   omega
  have e2n:0<is.length:=by omega
  have HV:=hq (HP.o false V0 (by rw[HX6'.o,decide_eq_false h2];rfl) HB0.o)
  clear HX6' HP h2 h5 h6 HOK
  go_wp2_with fail
  exact HV.o
 have HX7:Hq (X=scalarM k t):=hq (by rw[HX6'.o,decide_eq_true h2];rfl)
 clear HX6' HOK
 subst h2
 simp only[List.length_nil]at *
 by_cases h1:k=1
 ·have f1:(k==1)=true:=beq_iff_eq.2 h1
  have HV:=hq (HP.o (List.isEmpty t) V0 (by
   rw[HX7.o,scalarM,if_pos h1]
   cases t<;>rfl) HB0.o)
  clear HX7 HP h1 h5 h6
  go_wp2_with fail
  exact HV.o
 have f1:(k==1)=false:=beq_eq_false_iff_ne.2 h1
 by_cases h2:k=2
 ·have f2:(k==2)=true:=beq_iff_eq.2 h2
  have HX8:Hq (X=(decide (t=[116,114,117,101])||decide (t=[102,97,108,115,101]))):=hq (by rw[HX7.o,scalarM,if_neg h1,if_pos h2])
  clear HX7 h1 h2 h5 h6
  by_cases h3:t=[116,114,117,101]
  ·have g3:(t==[116,114,117,101])=true:=beq_iff_eq.2 h3
   have HV:=hq (HP.o true V0 (by rw[HX8.o,decide_eq_true h3];rfl) HB0.o)
   clear HX8 HP h3
   go_wp2_with fail
   exact HV.o
  ·have g3:(t==[116,114,117,101])=false:=beq_eq_false_iff_ne.2 h3
   have HV:=hq (HP.o (t==[102,97,108,115,101]) V0 (by
    rw[HX8.o,decide_eq_false h3]
    by_cases h:t=[102,97,108,115,101]<;>simp[h]) HB0.o)
   clear HX8 HP h3
   go_wp2_with fail
   exact HV.o
 have f2:(k==2)=false:=beq_eq_false_iff_ne.2 h2
 by_cases h3:k=3
 ·have f3:(k==3)=true:=beq_iff_eq.2 h3
  have HX8:Hq (X=decM t):=hq (by rw[HX7.o,scalarM,if_neg h1,if_neg h2,if_pos h3])
  have HDC:=hq (rdecV_any t V0 ht)
  clear HX7 h1 h2 h3 h5 h6
  go_wp2_with fail
  refine HDC.o.mono ?_
  rintro e w2 ⟨rfl,hb2⟩
  have HV:=hq (HP.o (decM t) _ HX8.o (below_trans HB0.o (below_trans hb2 (below_alloc w2 (.cells #[.bool (numT t).neg,.string (st (numT t).digits),.int .i64 (numT t).exp] 59)))))
  simp only[Dec.val]
  clear HX8 HP hb2 HDC
  go_wp2_with fail
  exact HV.o
 have f3:(k==3)=false:=beq_eq_false_iff_ne.2 h3
 by_cases h4:k=4
 ·have f4:(k==4)=true:=beq_iff_eq.2 h4
  have HX8:Hq (X=(valid (st t)).2):=hq (by rw[HX7.o,scalarM,if_neg h1,if_neg h2,if_neg h3,if_pos h4])
  have HVC:=hq (rutf_any (st t) V0 (by rw[st_size];unfold maxLen;omega))
  clear HX7 h1 h2 h3 h4 h5 h6
  generalize (valid (st t)).2=v2 at *
  go_wp2_with fail
  refine HVC.o.mono ?_
  rintro e w2 ⟨rfl,hb2⟩
  have HV:=hq (HP.o v2 w2 HX8.o (below_trans HB0.o hb2))
  clear HX8 HP hb2 HVC
  go_wp2_with fail
  exact HV.o
 have f4:(k==4)=false:=beq_eq_false_iff_ne.2 h4
 by_cases h7:k=7
 case neg=>
  have f7:(k==7)=false:=beq_eq_false_iff_ne.2 h7
  have HV:=hq (HP.o false V0 (by rw[HX7.o,scalarM,if_neg h1,if_neg h2,if_neg h3,if_neg h4,if_neg h7]) HB0.o)
  clear HX7 h1 h2 h3 h4 h7 HP h5 h6
  go_wp2_with fail
  exact HV.o
 case pos=>
  have f7:(k==7)=true:=beq_iff_eq.2 h7
  have HX8:Hq (X=(decM t&&((intM (numT t)).2&&decide (0≤(intM (numT t)).1)))):=hq (by rw[HX7.o,scalarM,if_neg h1,if_neg h2,if_neg h3,if_neg h4,if_pos h7];rfl)
  have HDC:=hq (rdecV_any t V0 ht)
  obtain⟨hbd1,hbd2⟩:=numT_bd t
  unfold DecP at HDC
  generalize numT t=d at *
  obtain⟨neg,D,E⟩:=d
  simp only[Dec.val]at *
  have HIC:=hq (fun W=>rint_any neg D E W (by omega) (by omega))
  unfold IntPost at HIC
  generalize decM t=dm at *
  generalize intM ⟨neg,D,E⟩=im at *
  obtain⟨i1,i2⟩:=im
  simp only at HX8 HIC
  clear HX7 h1 h2 h3 h4 h7 h5 h6
  go_wp2_with fail
  refine HDC.o.mono ?_
  rintro e w2 ⟨rfl,hb2⟩
  have hb3:=below_trans hb2 (below_alloc w2 (.cells #[.bool neg,.string (st D),.int .i64 E] 59))
  obtain⟨n0,n1,n2⟩:=three_cells (Whole.made w2 59 #[.bool neg,.string (st D),.int .i64 E])
  have HB3:=hq hb3
  clear hb2 hb3 HDC
  go_upto_region 16 with fail
  generalize (w2.alloc (.cells #[.bool neg,.string (st D),.int .i64 E] 59))=W3 at *
  go_wp2_with fail
  refine(HIC.o W3).mono ?_
  rintro e w4 ⟨rfl,hb4⟩
  have HB4:=hq (below_trans HB0.o (below_trans HB3.o hb4))
  clear hb4 HIC n0 n1 n2
  cases dm with
  |false=>
   have HV:=hq (HP.o false w4 HX8.o HB4.o)
   clear HX8 HP
   go_wp2_with fail
   exact HV.o
  |true=>
   cases i2 with
   |false=>
    have HV:=hq (HP.o false w4 HX8.o HB4.o)
    clear HX8 HP
    go_wp2_with fail
    exact HV.o
   |true=>
    have HV:=hq (HP.o (decide (0≤i1)) w4 (by rw[HX8.o];simp) HB4.o)
    clear HX8 HP
    go_wp2_with fail
    all_goals exact HV.o
def okR(h:Bool)(v:Vl):Bool:=nodeR v&&(h||decide (v.k≠7))
set_option maxHeartbeats 8000000 in
set_option maxRecDepth 1000000 in
theorem rnodes_any(h:Bool): ∀(x:Vt) (w:World),x.Ok w→x.m.All Lim→Calls Tryz.prog 95 #[x.v,.bool h] w (BPost (x.m.allB (okR h)) w):=Vt.ind (fun k t ks o c is ih w hok hlim=>by
 obtain⟨ko,kc,kl⟩:=ks
 have hn:=hok.hl
 have hc:=hok.hc
 unfold maxLen at hc
 have HND:=hq (fun V (hV:Below w.heap.size w V)=>rnode_any (Vt.mk k t ⟨ko,kc,kl⟩ o c is) V (hok.grow hV) (by have:=hlim.here;rw[Vt.m_mk]at this;exact this.1) (by have:=hlim.here;rw[Vt.m_mk]at this;exact this.2))
 rw[Vt.m_mk]at *
 rw[Vt.v_mk']at *
 have HIH:=hq (fun (x:Vt) (hx:x∈is) W (hW:x.Ok W)=>ih x hx W hW (hlim.items _ (List.mem_map.2 ⟨x,hx,rfl⟩)))
 have HA:Hq (Vl.allB (okR h) (.mk k t kl (is.map Vt.m))=(okR h (.mk k t kl (is.map Vt.m))&&Vl.allsB (okR h) (is.map Vt.m))):=hq rfl
 have HO:Hq (okR h (.mk k t kl (is.map Vt.m))=(nodeR (.mk k t kl (is.map Vt.m))&&(h||decide (k≠7)))):=hq rfl
 have HALL:Hq (Vl.allsB (okR h) (is.map Vt.m)=true↔ ∀j (hj:j<is.length),is[j].m.allB (okR h)=true):=hq (by
  rw[Vl.allsB_iff]
  constructor
  ·intro h j hj
   exact h _ (List.mem_map.2 ⟨_,List.getElem_mem hj,rfl⟩)
  ·intro h x hx
   obtain⟨y,hy,rfl⟩:=List.mem_map.1 hx
   obtain⟨j,hj,rfl⟩:=List.mem_iff_getElem.1 hy
   exact h j hj)
 have HP:Hq (∀(b:Bool) W',Vl.allB (okR h) (.mk k t kl (is.map Vt.m))=b→Below w.heap.size w W'→BPost (Vl.allB (okR h) (.mk k t kl (is.map Vt.m))) w (.returned (.bool b)) W'):=hq (fun b W' h h2=>⟨by rw[h],h2⟩)
 generalize BPost (Vl.allB (okR h) (.mk k t kl (is.map Vt.m))) w=PP at *
 generalize Vl.allB (okR h) (.mk k t kl (is.map Vt.m))=R at *
 generalize okR h (.mk k t kl (is.map Vt.m))=oR at *
 generalize nodeR (.mk k t kl (is.map Vt.m))=nR at *
 generalize Vl.allsB (okR h) (is.map Vt.m)=aR at *
 generalize okR h=pR at *
 have hb0:=below_alloc w (.cells #[.int .i64 k,.string (st t),.slice ko kl.length kc,.slice o is.length c] 26)
 have HW0:=hq (Whole.made w 26 #[.int .i64 k,.string (st t),.slice ko kl.length kc,.slice o is.length c])
 have HB0:=hq hb0
 have HOK:=hq hok
 clear hok hb0 ih hlim
 go_enter Tryz.func95,Tryz.ntmps95
 go_upto_region 1 with fail
 generalize w.heap.size=g at HW0
 generalize (w.alloc (.cells #[.int .i64 k,.string (st t),.slice ko kl.length kc,.slice o is.length c] 26))=V0 at *
 have hVg:=hq (fun wr (hb:Below V0.heap.size V0 wr)=>four_cells (HW0.o.grow hb))
 obtain⟨c0,c1,c2,c3⟩:=hVg.o V0 (Below.refl _ _)
 have HNC:=hq (HND.o V0 HB0.o)
 clear HND
 go_wp2_with fail
 refine HNC.o.mono ?_
 rintro e w2 ⟨rfl,hb2⟩
 have HB2:=hq hb2
 clear hb2 HNC c0 c1 c2 c3
 obtain⟨c0,c1,c2,c3⟩:=hVg.o w2 HB2.o
 cases nR with
 |false=>
  have HV:=hq (HP.o false w2 (by rw[HA.o,HO.o];rfl) (below_trans HB0.o HB2.o))
  clear HP HA HO HALL HIH
  go_wp2_with fail
  exact HV.o
 |true=>
 have hcs:((k==7)=true∧h=false∧oR=false)∨((k==7)=true∧h=true∧oR=true)∨((k==7)=false∧oR=true):=by
  by_cases h7:k=7
  ·cases h with
   |false=>exact .inl ⟨beq_iff_eq.2 h7,rfl,by rw[HO.o,decide_eq_false (fun e=>e h7)];rfl⟩
   |true=>exact .inr (.inl ⟨beq_iff_eq.2 h7,rfl,by rw[HO.o];rfl⟩)
  ·exact .inr (.inr ⟨beq_eq_false_iff_ne.2 h7,by rw[HO.o,decide_eq_true h7,Bool.or_true];rfl⟩)
 clear HO
 rcases hcs with ⟨e7,rfl,e8⟩|⟨e7,rfl,e8⟩|⟨e7,e8⟩
 ·have HV:=hq (HP.o false w2 (by rw[HA.o,e8];rfl) (below_trans HB0.o HB2.o))
  clear HP HA HALL HIH e8
  go_wp2_with fail
  exact HV.o
 all_goals
  have HA2:Hq (R=aR):=hq (by rw[HA.o,e8];rfl)
  clear HA e8
  go_wp2_with fail
  clear c0 c1 c2 c3
  go_loopw [6,7] (fun i _ wr=> ∃j:Nat,j≤is.length∧i= .int .i64 (j:Int)∧Hq (∀q (_:q<j) (hl:q<is.length),is[q].m.allB (pR)=true)∧Hq (Below V0.heap.size V0 wr)) (fun i _ _=>is.length-(intOf i).toNat)
  case atStart=>exact⟨0,Nat.zero_le _,rfl,hq (fun q h _=>absurd h (Nat.not_lt_zero _)),HB2⟩
  case round=>
   obtain⟨j,hj,rfl,hp,hb⟩:=hrel
   obtain⟨c0,c1,c2,c3⟩:=hVg.o wr hb.o
   by_cases hlt:j<is.length
   ·have hzj:(j:Int)<(is.length:Int):=by omega
    obtain⟨b,f,ho,a0,a1,a2,a3⟩:=(HOK.o.grow (below_trans HB0.o hb.o)).at_ j hlt
    have HC:=hq (HIH.o is[j] (List.getElem_mem hlt) wr ((HOK.o.grow (below_trans HB0.o hb.o)).item j hlt))
    have HNX:Hq (is[j].m.allB (pR)=true→ ∀q (_:q<j+1) (hl:q<is.length),is[q].m.allB (pR)=true):=hq (fun hv q hq' hl=>by
     by_cases e:q=j
     ·subst e;exact hv
     ·exact hp.o q (by omega) hl)
    have HBD:=hq (fun (hv:is[j].m.allB (pR)=false)=>(show aR=false from by
     cases haR:aR with
     |false=>rfl
     |true=>have:=HALL.o.1 haR j hlt;rw[hv]at this;cases this))
    clear HIH hp
    generalize is[j].m.allB (pR)=bj at *
    generalize is[j]=y at *
    subst ho
    go_wp2_with fail
    refine HC.o.mono ?_
    rintro e w3 ⟨rfl,hb3⟩
    have HB3:=hq (below_trans hb.o hb3)
    clear hb3 c0 c1 c2 c3 a0 a1 a2 a3 HC
    cases bj with
    |true=>
     have HN2:=hq (HNX.o rfl)
     clear HNX HBD HP HA2
     go_wp2_with fail
     go_roundw
     case rel=>exact⟨j+1,hlt,int_eq (by omega),HN2,HB3⟩
     case measure=>simp[intOf];omega
    |false=>
     have HV:=hq (HP.o false w3 (by rw[HA2.o,HBD.o rfl]) (below_trans HB0.o HB3.o))
     clear HNX HBD HP HA2
     go_wp2_with fail
     exact HV.o
   ·have hzj: ¬(j:Int)<(is.length:Int):=by omega
    have HV:=hq (HP.o true wr (by rw[HA2.o];exact HALL.o.2 (fun q hl=>hp.o q (by omega) hl)) (below_trans HB0.o hb.o))
    clear HP HA2 HIH hp HALL
    go_wp2_with fail
    exact HV.o)
set_option maxHeartbeats 4000000 in
set_option maxRecDepth 1000000 in
theorem rrightV_any(x:Vt)(w:World)(hx:Fine x w):Calls Tryz.prog 51 #[x.v] w (BPost (rightM x.m) w):=by
 have HSZ:=hq (fun V (hV:Below w.heap.size w V)=>rvsize_any x V (hx.ok.grow hV) (Nat.le_trans hx.sz (by decide)))
 have HDP:=hq (fun V (hV:Below w.heap.size w V)=>rvdepth_any x V (hx.ok.grow hV) (Nat.le_trans (Nat.le_trans x.m.depth_size hx.sz) (by decide)))
 have HND:=hq (fun V (hV:Below w.heap.size w V)=>rnodes_any false x V (hx.ok.grow hV) hx.lim)
 have HOM:Hq (rightM x.m=(decide ((x.m.size:Int)≤4096)&&(decide ((x.m.depth:Int)≤32)&&x.m.allB (okR false)))):=hq (by
  unfold rightM
  by_cases h:x.m.size≤4096
  ·rw[decide_eq_true h,decide_eq_true (show(x.m.size:Int)≤4096 by omega),Bool.true_and,Bool.true_and]
   congr 1
   ·exact decide_eq_decide.2 (by omega)
   ·rw[←allR_eq (fun v=>decide (v.k≠7)) x.m h]
    congr 1
  ·rw[decide_eq_false h,decide_eq_false (show¬(x.m.size:Int)≤4096 by omega)];rfl)
 have HP:Hq (∀(b:Bool) W',rightM x.m=b→Below w.heap.size w W'→BPost (rightM x.m) w (.returned (.bool b)) W'):=hq (fun b W' h h2=>⟨by rw[h],h2⟩)
 have h1:0≤(x.m.size:Int)∧(x.m.size:Int)≤1000000:=by have:=hx.sz;omega
 have h2:0≤(x.m.depth:Int)∧(x.m.depth:Int)≤1000000:=by have:=hx.sz;have:=x.m.depth_size;omega
 generalize BPost (rightM x.m) w=PP at *
 obtain⟨k,t,⟨ko,kc,kl⟩,o,c,is⟩:=x
 rw[Vt.v_mk']at *
 generalize (Vt.mk k t ⟨ko,kc,kl⟩ o c is).m=X at *
 generalize rightM X=oX at *
 generalize X.allB (okR false)=aX at *
 generalize (X.size:Int)=sX at *
 generalize (X.depth:Int)=dX at *
 have hb0:=below_alloc w (.cells #[.int .i64 k,.string (st t),.slice ko kl.length kc,.slice o is.length c] 26)
 have HW0:=hq (Whole.made w 26 #[.int .i64 k,.string (st t),.slice ko kl.length kc,.slice o is.length c])
 have HB0:=hq hb0
 clear hb0 hx
 go_enter Tryz.func51,Tryz.ntmps51
 go_upto_region 1 with fail
 generalize w.heap.size=g at HW0
 generalize (w.alloc (.cells #[.int .i64 k,.string (st t),.slice ko kl.length kc,.slice o is.length c] 26))=V0 at *
 have hVg:=hq (fun wr (hb:Below V0.heap.size V0 wr)=>four_cells (HW0.o.grow hb))
 obtain⟨c0,c1,c2,c3⟩:=hVg.o V0 (Below.refl _ _)
 go_wp2_with fail
 refine(HSZ.o V0 HB0.o).mono ?_
 rintro e w2 ⟨rfl,hb2⟩
 have HB2:=hq hb2
 clear hb2 c0 c1 c2 c3 HSZ
 obtain⟨c0,c1,c2,c3⟩:=hVg.o w2 HB2.o
 by_cases q1:sX≤4096
 case neg=>
  have q1d:decide (sX≤4096)=false:=decide_eq_false q1
  have HV:=hq (HP.o false w2 (by rw[HOM.o,q1d];rfl) (below_trans HB0.o HB2.o))
  clear HP HOM HDP HND
  go_wp2_with fail
  exact HV.o
 have HOM1:Hq (oX=(decide (dX≤32)&&aX)):=hq (by rw[HOM.o,decide_eq_true q1];rfl)
 clear HOM
 go_wp2_with fail
 refine(HDP.o w2 (below_trans HB0.o HB2.o)).mono ?_
 rintro e w3 ⟨rfl,hb3⟩
 have HB3:=hq (below_trans HB2.o hb3)
 clear hb3 c0 c1 c2 c3 HDP
 obtain⟨c0,c1,c2,c3⟩:=hVg.o w3 HB3.o
 by_cases q2:dX≤32
 case neg=>
  have q2d:decide (dX≤32)=false:=decide_eq_false q2
  have HV:=hq (HP.o false w3 (by rw[HOM1.o,q2d];rfl) (below_trans HB0.o HB3.o))
  clear HP HOM1 HND
  go_wp2_with fail
  exact HV.o
 have HOM2:Hq (oX=aX):=hq (by rw[HOM1.o,decide_eq_true q2];rfl)
 clear HOM1
 go_wp2_with fail
 refine(HND.o w3 (below_trans HB0.o HB3.o)).mono ?_
 rintro e w4 ⟨rfl,hb4⟩
 have HV:=hq (HP.o aX w4 HOM2.o (below_trans HB0.o (below_trans HB3.o hb4)))
 clear hb4 HP HOM2 HND
 go_wp2_with fail
 exact HV.o
set_option maxHeartbeats 4000000 in
set_option maxRecDepth 1000000 in
theorem rOf_any(t:Bs)(w:World):Calls Tryz.prog 36 #[.string (st t)] w (LeafPost 4 t w):=by
 have hb0:=below_alloc w (.cells #[.int .i64 4,.string (st t),.slice none 0 0,.slice none 0 0] 26)
 obtain⟨r0,r1,r2,r3⟩:=four_cells (Whole.made w 26 #[.int .i64 4,.string (st t),.slice none 0 0,.slice none 0 0])
 have HV:=hq (show LeafPost 4 t w (.returned (leafT 4 t).v) (w.alloc (.cells #[.int .i64 4,.string (st t),.slice none 0 0,.slice none 0 0] 26)) from⟨rfl,hb0⟩)
 generalize LeafPost 4 t w=PP at *
 clear hb0
 go_enter Tryz.func36,Tryz.ntmps36
 go_wp2_with fail
 refine bodyPost_ret (v:=(leafT 4 t).v) ?_ rfl HV.o
 simp[results,Tryz.results36,go_sem,r0,r1,r2,r3,leafT_v]
theorem textM_lenV(d:Dec)(he:-9223372036854775808≤d.exp∧d.exp≤9223372036854775807):(textM d).length≤d.digits.length+1010:=by
 have h:=(decDigits_shortU d.exp he.1 he.2).2
 unfold textM
 split
 ·split
  ·simp
  ·simp only[List.length_append]
   have h1:(if d.neg=true then [45] else([]:Bs)).length≤1:=by split<;>simp
   have h2:(if d.exp≠0 then 101::Lib.itoa d.exp else([]:Bs)).length≤1001:=by split<;>simp<;>omega
   omega
 ·simp
end Go.Proofs.YtkafjblfjdpdaaaGreatDoor
