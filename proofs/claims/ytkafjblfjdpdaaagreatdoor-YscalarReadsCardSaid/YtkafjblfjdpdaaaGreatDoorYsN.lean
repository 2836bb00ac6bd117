/-
  WALKS: yscalar.Resolve.
  WALK: yscalar.Write.
-/
import Derived.Test.YtkafjblfjdpdaaaGreatDoorYsM
set_option maxHeartbeats 16000000
set_option maxRecDepth 1000000
namespace Go.Proofs.YtkafjblfjdpdaaaGreatDoor
open Go.RowKit
def zJ7(v:Vl)(W:World)(e:Ending)(W':World):Prop:=e= .returned (.agg #[.int .i64 v.k,.string (st v.t),.slice none 0 0,.slice none 0 0])/\Below W.heap.size W W'
theorem zn2(l:Bs):
 ((l=[]\/l=[110,117,108,108]\/l=[126])/\zc3 l= .mk 1 [] [] [])\/
 (l≠ []/\l≠ [110,117,108,108]/\l≠ [126]/\(l=[116,114,117,101]\/l=[102,97,108,115,101])/\zc3 l= .mk 2 l [] [])\/
 (l≠ []/\l≠ [110,117,108,108]/\l≠ [126]/\l≠ [116,114,117,101]/\l≠ [102,97,108,115,101]/\(((zb3 l).2=0/\zc3 l= .mk 3 (zk9 (zb3 l).1) [] [])\/((zb3 l).2≠0/\zc3 l= .mk 4 l [] []))):=by
 unfold zc3;by_cases h1:l=[]\/l=[110,117,108,108]\/l=[126]
 ·exact .inl ⟨h1,if_pos h1⟩
 rw[if_neg h1];have n1:l≠ []:=fun h=>h1 (.inl h)
 have n2:l≠ [110,117,108,108]:=fun h=>h1 (.inr (.inl h))
 have n3:l≠ [126]:=fun h=>h1 (.inr (.inr h))
 by_cases h2:l=[116,114,117,101]\/l=[102,97,108,115,101]
 ·exact .inr (.inl ⟨n1,n2,n3,h2,if_pos h2⟩)
 rw[if_neg h2];refine .inr (.inr ⟨n1,n2,n3,fun h=>h2 (.inl h),fun h=>h2 (.inr h),?_⟩);by_cases h3:(zb3 l).2=0
 ·exact .inl ⟨h3,if_pos h3⟩
 ·exact .inr ⟨h3,if_neg h3⟩
theorem zs0(s:ByteArray)(W:World)(hE:Env W)(hs:s.size<=1099511627776):
 Calls Tryz.prog 17 #[.string s] W (zJ7 (zc3 s.data.toList) W):=by
 have hst:st s.data.toList=s:=zo7 (by simp);have HPA:=hq (fun V=>zy2 s V hs);have HTX:Hq (∀d:Dec,d.right=true-> ∀V,Below W.heap.size W V->Calls Tryz.prog 43 #[.agg #[.bool d.neg,.string (st d.digits),.int .i64 d.exp]] V fun e w'=>e= .returned (.string (st (zk9 d)))/\Below V.heap.size V w'):=hq (fun d hr V hV=>by
  have hbd:= @zm2 d.neg d.digits d.exp hr;exact zD1 d.neg d.digits d.exp V (by omega) (by omega) (fun _=>(hE.its.grow hV) d.exp (by omega) (by omega)) (zj7 d.exp (by omega) (by omega)))
 have HOF:Hq (∀V,Calls Tryz.prog 29 #[.string s] V fun e W'=>e= .returned (.agg #[.int .i64 4,.string s,.slice none 0 0,.slice none 0 0])/\Below V.heap.size V W'):=hq (fun V=>by
  have h:=zz7 s.data.toList V;rw[hst]at h;exact h.mono fun e W' h=>⟨by rw[h.1,zo5,hst],h.2⟩)
 have HRC:=hq (zn2 s.data.toList);have HP:Hq (∀W',Below W.heap.size W W'->zJ7 (zc3 s.data.toList) W (.returned (.agg #[.int .i64 (zc3 s.data.toList).k,.string (st (zc3 s.data.toList).t),.slice none 0 0,.slice none 0 0])) W'):=hq (fun W' h=>⟨rfl,h⟩);generalize zJ7 (zc3 s.data.toList) W=PP at *;have E0:=zj5 s [];have E1:=zj5 s [110,117,108,108];have E2:=zj5 s [126];have E3:=zj5 s [116,114,117,101];have E4:=zj5 s [102,97,108,115,101];have HB0:=hq (za0 W (.cells #[.int .i64 0,.string ⟨#[]⟩,.slice none 0 0,.slice none 0 0] 26));have HW0:=hq (Whole.made W 26 #[.int .i64 0,.string ⟨#[]⟩,.slice none 0 0,.slice none 0 0]);clear hE;go_enter Tryz.func17,Tryz.ntmps17
 go_upto_region 1 with fail
 obtain⟨g,HG⟩: ∃g,Hq (g=W.heap.size):=⟨_,hq rfl⟩;rw[←HG.o]at HW0 ⊢;generalize (W.alloc (.cells #[.int .i64 0,.string ⟨#[]⟩,.slice none 0 0,.slice none 0 0] 26))=V0 at *;have HPUT:=hq (fun V (h:Below W.heap.size W V) a b c d=>zg5 h (show W.heap.size<=g by rw[HG.o];exact Nat.le_refl _) a b c d);obtain⟨z0,z1,z2,z3⟩:=za1 HW0.o;have f0:=HW0.o.free 0;have f1:=HW0.o.free 1;have f2:=HW0.o.free 2;have f3:=HW0.o.free 3;have nul: ∀(_:zc3 s.data.toList= .mk 1 [] [] []),Hq (PP (.returned (.agg #[.int .i64 1,.string ⟨#[]⟩,.slice none 0 0,.slice none 0 0])) ((((V0.setCell ⟨g,0,none⟩ (.int .i64 1)).setCell ⟨g,1,none⟩ (.string ⟨#[]⟩)).setCell ⟨g,2,none⟩ (.slice none 0 0)).setCell ⟨g,3,none⟩ (.slice none 0 0))):=fun h=>hq (by
  have:=HP.o _ (HPUT.o _ HB0.o (.int .i64 1) (.string ⟨#[]⟩) (.slice none 0 0) (.slice none 0 0));rw[h]at this;exact this)
 have two: ∀(_:zc3 s.data.toList= .mk 2 s.data.toList [] []),Hq (PP (.returned (.agg #[.int .i64 2,.string s,.slice none 0 0,.slice none 0 0])) ((((V0.setCell ⟨g,0,none⟩ (.int .i64 2)).setCell ⟨g,1,none⟩ (.string s)).setCell ⟨g,2,none⟩ (.slice none 0 0)).setCell ⟨g,3,none⟩ (.slice none 0 0))):=fun h=>hq (by
  have:=HP.o _ (HPUT.o _ HB0.o (.int .i64 2) (.string s) (.slice none 0 0) (.slice none 0 0));rw[h]at this;simp only[Vl.k,Vl.t,hst]at this;exact this)
 rcases HRC.o with ⟨hc,hr⟩|⟨n0,n1,n2,hc,hr⟩|⟨n0,n1,n2,n3,n4,hc⟩
 ·have HV:=nul hr;clear HP HTX HPA HOF HRC two nul hr hst;by_cases c0:s.data.toList=[]
  ·rw[decide_eq_true c0]at E0;clear c0 hc E1 E2 E3 E4;go_wp2_with fail
   refine bodyPost_ret (v:= .agg #[.int .i64 1,.string ⟨#[]⟩,.slice none 0 0,.slice none 0 0]) ?_ rfl HV.o;simp[results,Tryz.results17,go_sem,z0,z1,z2,z3]
  ·rw[decide_eq_false c0]at E0;by_cases c1:s.data.toList=[110,117,108,108]
   ·rw[decide_eq_true c1]at E1;clear c0 c1 hc E2 E3 E4;go_wp2_with fail
    refine bodyPost_ret (v:= .agg #[.int .i64 1,.string ⟨#[]⟩,.slice none 0 0,.slice none 0 0]) ?_ rfl HV.o;simp[results,Tryz.results17,go_sem,z0,z1,z2,z3]
   ·rw[decide_eq_false c1]at E1;rw[decide_eq_true ((hc.resolve_left c0).resolve_left c1)]at E2;clear c0 c1 hc E3 E4;go_wp2_with fail
    refine bodyPost_ret (v:= .agg #[.int .i64 1,.string ⟨#[]⟩,.slice none 0 0,.slice none 0 0]) ?_ rfl HV.o;simp[results,Tryz.results17,go_sem,z0,z1,z2,z3]
 ·have HV:=two hr;clear HP HTX HPA HOF HRC two nul hr hst;rw[decide_eq_false n0]at E0;rw[decide_eq_false n1]at E1;rw[decide_eq_false n2]at E2;clear n0 n1 n2;by_cases c3:s.data.toList=[116,114,117,101]
  ·rw[decide_eq_true c3]at E3;clear c3 hc E4;go_wp2_with fail
   refine bodyPost_ret (v:= .agg #[.int .i64 2,.string s,.slice none 0 0,.slice none 0 0]) ?_ rfl HV.o;simp[results,Tryz.results17,go_sem,z0,z1,z2,z3]
  ·rw[decide_eq_false c3]at E3;rw[decide_eq_true (hc.resolve_left c3)]at E4;clear c3 hc;go_wp2_with fail
   refine bodyPost_ret (v:= .agg #[.int .i64 2,.string s,.slice none 0 0,.slice none 0 0]) ?_ rfl HV.o;simp[results,Tryz.results17,go_sem,z0,z1,z2,z3]
 ·rw[decide_eq_false n0]at E0;rw[decide_eq_false n1]at E1;rw[decide_eq_false n2]at E2;rw[decide_eq_false n3]at E3;rw[decide_eq_false n4]at E4;clear n0 n1 n2 n3 n4 two nul HRC;rcases hc with ⟨h1,hr⟩|⟨h1,hr⟩
  ·have hpr:=zg7 (l:=s.data.toList) (m:=(zb3 s.data.toList).1) (by rw[←h1]);have HTD:=hq (HTX.o _ hpr);rw[hr]at HP;generalize zb3 s.data.toList=R at *;obtain⟨⟨neg,D,E⟩,er⟩:=R;simp only at h1;subst h1;simp only[Vl.k,Vl.t]at HP;generalize hTM:zk9 ⟨neg,D,E⟩=TM at *;have hTM':=hq hTM;clear HTX hpr hTM HOF hr hst;go_wp2_with fail
   refine(HPA.o _).mono ?_;rintro e w2 ⟨rfl,hb2⟩;have HB2:=hq (za HB0.o hb2);have HW2:=hq (HW0.o.grow hb2);clear HPA hb2 z0 z1 z2 z3 f0 f1 f2 f3;simp only[Dec.val];go_upto_region 10 with fail
   have HB3:=hq (za HB2.o (za0 w2 (.cells #[.bool neg,.string (st D),.int .i64 E] 59)));have HW3:=hq (HW2.o.grow (za0 w2 (.cells #[.bool neg,.string (st D),.int .i64 E] 59)));obtain⟨n0,n1,n2⟩:=za2 (Whole.made w2 59 #[.bool neg,.string (st D),.int .i64 E]);generalize w2.alloc (.cells #[.bool neg,.string (st D),.int .i64 E] 59)=W3 at *;generalize w2.heap.size=gn at *;go_wp2_with fail
   refine(HTD.o W3 HB3.o).mono ?_;rintro e w4 ⟨rfl,hb4⟩;have HB4:=hq (za HB3.o hb4);have hw4:=HW3.o.grow hb4;obtain⟨z0,z1,z2,z3⟩:=za1 hw4;have f0:=hw4.free 0;have f1:=hw4.free 1;have f2:=hw4.free 2;have f3:=hw4.free 3;have HV:=hq (HP.o _ (HPUT.o _ HB4.o (.int .i64 3) (.string (st TM)) (.slice none 0 0) (.slice none 0 0)));clear HP HTD hb4 hw4;go_wp2_with fail
   refine bodyPost_ret (v:= .agg #[.int .i64 3,.string (st TM),.slice none 0 0,.slice none 0 0]) ?_ rfl HV.o;simp[results,Tryz.results17,go_sem,z0,z1,z2,z3]
  ·rw[hr]at HP;simp only[Vl.k,Vl.t,hst]at HP;clear HTX hr hst;generalize zb3 s.data.toList=R at *;obtain⟨⟨neg,D,E⟩,er⟩:=R;have e1:(er==0)=false:=beq_eq_false_iff_ne.2 h1;clear h1;go_wp2_with fail
   refine(HPA.o _).mono ?_;rintro e w2 ⟨rfl,hb2⟩;have HB2:=hq (za HB0.o hb2);have HW2:=hq (HW0.o.grow hb2);clear HPA hb2 z0 z1 z2 z3 f0 f1 f2 f3;simp only[Dec.val];go_upto_region 10 with fail
   have HB3:=hq (za HB2.o (za0 w2 (.cells #[.bool neg,.string (st D),.int .i64 E] 59)));have HW3:=hq (HW2.o.grow (za0 w2 (.cells #[.bool neg,.string (st D),.int .i64 E] 59)));generalize w2.alloc (.cells #[.bool neg,.string (st D),.int .i64 E] 59)=W3 at *;generalize w2.heap.size=gn at *;go_wp2_with fail
   refine(HOF.o W3).mono ?_;rintro e w4 ⟨rfl,hb4⟩;have HB4:=hq (za HB3.o hb4);have hw4:=HW3.o.grow hb4;obtain⟨z0,z1,z2,z3⟩:=za1 hw4;have f0:=hw4.free 0;have f1:=hw4.free 1;have f2:=hw4.free 2;have f3:=hw4.free 3;have HV:=hq (HP.o _ (HPUT.o _ HB4.o (.int .i64 4) (.string s) (.slice none 0 0) (.slice none 0 0)));clear HP HOF hb4 hw4;go_wp2_with fail
   refine bodyPost_ret (v:= .agg #[.int .i64 4,.string s,.slice none 0 0,.slice none 0 0]) ?_ rfl HV.o;simp[results,Tryz.results17,go_sem,z0,z1,z2,z3]
theorem prB_small {v:Vl} (h:zg2 v=true)(hs:v.All Sht):(prB false 0 0 v).length<=122880000:=by
 obtain⟨_,h1,h2,_⟩:=zu4 h;have:=prB_len false 0 (by omega) v hs 0 (by omega);omega
theorem rgt_of {v:Vl} (h:zg2 v=true):Rgt v:=by
 unfold zg2 at h;simp only[Bool.and_eq_true,decide_eq_true_eq]at h;exact h.2.2
theorem ywrite_any(x:Vt)(w:World)(hE:Env w)(hm:mx w)(hx:Pri x w):Calls Tryz.prog 21 #[x.v] w (TextP (zs1 x.m) w):=by
 have HCO:=hq (fun W (h:Below w.heap.size w W)=>pcompact x W (hE.grow h) (hx.grow h));have hsz:x.t.length<=2048:=by
  have:=hx.sht.here;obtain⟨k,t,ks,o,c,is⟩:=x;rw[Vt.m_mk]at this;exact this.1
 have hxt:x.m.t=x.t:=by
  obtain⟨k,t,ks,o,c,is⟩:=x;rw[Vt.m_mk];rfl
 have HBA:=hq (fun W (h:Below w.heap.size w W)=>zp5 (st x.t) W (hE.grow h).tab (by rw[za8];omega));have HRS:=hq (fun W (h:Below w.heap.size w W)=>zs0 (st x.t) W (hE.grow h) (by rw[za8];omega));have HSF:Hq (zg2 x.m=true-> ∀W,Below w.heap.size w W->Calls Tryz.prog 49 #[.string (st (prB false 0 0 x.m))] W fun e w'=>e= .returned (.string (st (zn9 0 (prB false 0 0 x.m))))/\Below W.heap.size W w'):=hq (fun hr W h=>by
  have:=ysafe_any (st (prB false 0 0 x.m)) W (vd_prB 0 x.m (rgt_of hr) 0).1.valid (by rw[za8];have:=prB_small hr hx.sht;omega);rwa [zc7]at this)
 have HIQ:Hq (zg2 x.m=true-> ∀W,Below w.heap.size w W->Calls Tryz.prog 50 #[.string (st x.t),.string (st (prB false 0 0 x.m))] W fun e w'=>e= .returned (.string (st (inQ x.t (prB false 0 0 x.m))))/\Below W.heap.size W w'):=hq (fun hr W h=>by
  have:=yinQ_any (st x.t) (st (prB false 0 0 x.m)) W (hE.grow h).tab (zo4 hm h) (by rw[za8];omega) (by rw[za8];have:=prB_small hr hx.sht;omega) (vd_prB 0 x.m (rgt_of hr) 0).1.valid;rwa [zc7,zc7]at this)
 rw[zc7]at HBA HRS;have HCM:Hq (zn4 x.m=if zg2 x.m=true then(prB false 0 0 x.m,0) else([],1)):=hq rfl;have HWM:Hq (zs1 x.m=if zg2 x.m=true then(if x.m.k=4 then(if zh9 x.t=true/\(zc3 x.t).k=4 then x.t else inQ x.t (prB false 0 0 x.m)) else zn9 0 (prB false 0 0 x.m),0) else([],1)):=hq (by unfold zs1;rw[hxt]);have HP:Hq (∀(r:Bs×Int) W',zs1 x.m=r->Below w.heap.size w W'->TextP (zs1 x.m) w (.returned (.tuple #[.string (st r.1),.int .i64 r.2])) W'):=hq (fun r W' h1 h2=>by rw[h1];exact⟨rfl,h2⟩);generalize TextP (zs1 x.m) w=PP at *;generalize zn4 x.m=CM at *;generalize zs1 x.m=WM at *;generalize prB false 0 0 x.m=PB at *;generalize zn9 0 PB=SF at *;clear hE hx hsz hxt hm;obtain⟨k,t,⟨ko,kc,kl⟩,o,c,is⟩:=x;rw[Vt.v_mk']at *;have hk:(Vt.mk k t ⟨ko,kc,kl⟩ o c is).m.k=k:=by rw[Vt.m_mk];rfl
 rw[hk]at HWM;have ht:(Vt.mk k t ⟨ko,kc,kl⟩ o c is).t=t:=rfl;rw[ht]at HWM HBA HRS HIQ;generalize (Vt.mk k t ⟨ko,kc,kl⟩ o c is).m=X at *;clear hk ht;generalize inQ t PB=IQ at *;generalize zh9 t=BL at *;generalize hRV:zc3 t=RV at *;clear hRV;have hb0:=za0 w (.cells #[.int .i64 k,.string (st t),.slice ko kl.length kc,.slice o is.length c] 26);have HB0:=hq hb0;have HW0:=hq (Whole.made w 26 #[.int .i64 k,.string (st t),.slice ko kl.length kc,.slice o is.length c]);clear hb0;obtain⟨c0,c1,c2,c3⟩:=za1 HW0.o;go_enter Tryz.func21,Tryz.ntmps21
 go_wp2_with fail
 generalize w.heap.size=g at c0 c1 c2 c3 HW0;generalize (w.alloc (.cells #[.int .i64 k,.string (st t),.slice ko kl.length kc,.slice o is.length c] 26))=V0 at *;refine(HCO.o V0 HB0.o).mono ?_;rintro e w1 ⟨rfl,hb1⟩;have HB1:=hq (za HB0.o hb1);have HW1:=hq (HW0.o.grow hb1);obtain⟨d0,d1,d2,d3⟩:=za1 HW1.o;clear HCO hb1 c0 c1 c2 c3;by_cases hr:zg2 X=true
 case neg=>
  have HU:=hq (HP.o ([],1) w1 (by rw[HWM.o,if_neg hr]) HB1.o);have hc:CM=([],1):=by rw[HCM.o,if_neg hr]
  subst hc;clear HP HCM HWM HBA HRS HSF HIQ hr;go_wp2_with fail
  first
   |exact HU.o
   |(go_ret2
     exact HU.o)
 case pos=>
  have hc:CM=(PB,0):=by rw[HCM.o,if_pos hr]
  have HW2:=hq (HWM.o.trans (if_pos hr));have HS2:=hq (HSF.o hr);have HI2:=hq (HIQ.o hr);subst hc;clear HCM HWM HSF HIQ hr;by_cases h4:k=4
  ·have e1:(k !=4)=false:=by rw[h4];rfl
   rw[if_pos h4]at HW2;clear h4 HS2;cases BL with
   |false=>
    have HU:=hq (fun W' h=>HP.o (IQ,0) W' (by rw[HW2.o,if_neg (fun h=>by cases h.1)]) h);clear HP HW2 HRS;go_wp2_with fail
    refine(HBA.o _ HB1.o).mono ?_;rintro e w2 ⟨rfl,hb2⟩;have HB2:=hq (za HB1.o hb2);have HW3:=hq (HW1.o.grow hb2);clear d0 d1 d2 d3 hb2 HBA;obtain⟨d0,d1,d2,d3⟩:=za1 HW3.o;go_wp2_with fail
    refine(HI2.o _ HB2.o).mono ?_;rintro e w3 ⟨rfl,hb3⟩;have HB3:=hq (za HB2.o hb3);clear d0 d1 d2 d3 hb3 HI2;go_wp2_with fail
    first
     |exact HU.o _ HB3.o
     |(go_ret2
       exact HU.o _ HB3.o)
   |true=>
    obtain⟨rk,rt,rks,ris⟩:=RV;have hfd: ∀W:World,(Instr.field 26 (.agg #[.int .i64 rk,.string (st rt),.slice none 0 0,.slice none 0 0]) 0).run Tryz.prog W= .ok (.int .i64 rk) W:=fun _=>by kernel_rfl
    by_cases hrk:rk=4
    ·have HU:=hq (fun W' h=>HP.o (t,0) W' (by rw[HW2.o,if_pos ⟨rfl,hrk⟩]) h);have e2:(rk==4)=true:=by rw[hrk];rfl
     clear HP HW2 hrk HI2;go_wp2_with fail
     refine(HBA.o _ HB1.o).mono ?_;rintro e w2 ⟨rfl,hb2⟩;have HB2:=hq (za HB1.o hb2);have HW3:=hq (HW1.o.grow hb2);clear d0 d1 d2 d3 hb2 HBA;obtain⟨d0,d1,d2,d3⟩:=za1 HW3.o;go_wp2_with fail
     refine(HRS.o _ HB2.o).mono ?_;rintro e w3 ⟨rfl,hb3⟩;have HB3:=hq (za HB2.o hb3);have HW4:=hq (HW3.o.grow hb3);clear d0 d1 d2 d3 hb3 HRS;obtain⟨d0,d1,d2,d3⟩:=za1 HW4.o;simp only[Vl.k,Vl.t];go_wp2_with fail
     first
      |exact HU.o _ HB3.o
      |(go_ret2
        exact HU.o _ HB3.o)
    ·have HU:=hq (fun W' h=>HP.o (IQ,0) W' (by rw[HW2.o,if_neg (fun h=>hrk h.2)]) h);have e2:(rk==4)=false:=beq_eq_false_iff_ne.2 hrk;clear HP HW2 hrk;go_wp2_with fail
     refine(HBA.o _ HB1.o).mono ?_;rintro e w2 ⟨rfl,hb2⟩;have HB2:=hq (za HB1.o hb2);have HW3:=hq (HW1.o.grow hb2);clear d0 d1 d2 d3 hb2 HBA;obtain⟨d0,d1,d2,d3⟩:=za1 HW3.o;go_wp2_with fail
     refine(HRS.o _ HB2.o).mono ?_;rintro e w3 ⟨rfl,hb3⟩;have HB3:=hq (za HB2.o hb3);have HW4:=hq (HW3.o.grow hb3);clear d0 d1 d2 d3 hb3 HRS;obtain⟨d0,d1,d2,d3⟩:=za1 HW4.o;simp only[Vl.k,Vl.t];go_wp2_with fail
     refine(HI2.o _ HB3.o).mono ?_;rintro e w4 ⟨rfl,hb4⟩;have HB4:=hq (za HB3.o hb4);clear d0 d1 d2 d3 hb4 HI2;go_wp2_with fail
     first
      |exact HU.o _ HB4.o
      |(go_ret2
        exact HU.o _ HB4.o)
  ·have e1:(k !=4)=true:=bne_iff_ne.2 h4;rw[if_neg h4]at HW2;have HU:=hq (fun W' h=>HP.o (SF,0) W' HW2.o h);clear h4 HP HW2 HBA HRS HI2;go_wp2_with fail
   refine(HS2.o _ HB1.o).mono ?_;rintro e w2 ⟨rfl,hb2⟩;have HB2:=hq (za HB1.o hb2);clear hb2 HS2;go_wp2_with fail
   first
    |exact HU.o _ HB2.o
    |(go_ret2
      exact HU.o _ HB2.o)
end Go.Proofs.YtkafjblfjdpdaaaGreatDoor
