/-
  WALK: yscalar.Read.
-/
import Derived.Test.YtkafjblfjdpdaaaGreatDoorYsN
set_option maxHeartbeats 16000000
set_option maxRecDepth 1000000
namespace Go.Proofs.YtkafjblfjdpdaaaGreatDoor
open Go.RowKit
theorem rd_quot {l r:Bs} {c:UInt8} (e:l=c::r)(h:c=34\/c=39):RdOf l (if (zj4 l).2=0 then .mk 4 (zj4 l).1 [] [] else zV) (zj4 l).2:=by
 subst e;unfold RdOf;simp only;rw[if_pos h];exact⟨trivial,trivial⟩
theorem rd_list {l r:Bs} {c:UInt8} (e:l=c::r)(h1: ¬(c=34\/c=39))(h2:c=91\/c=123):(∀q,zc2 (st l)= .inl q->RdOf l zV q.2)/\(∀ns v,zc2 (st l)= .inr ns->Rv (st l) ns 32 0 v ns.length->RdOf l v 0):=by
 subst e;refine⟨fun q hp=> ?_,fun ns v hp hv=> ?_⟩
 ·unfold RdOf;simp only;rw[if_neg h1,if_pos h2,hp];exact⟨trivial,rfl⟩
 ·unfold RdOf;simp only;rw[if_neg h1,if_pos h2,hp];exact⟨trivial,hv⟩
theorem rd_bad {l r:Bs} {c:UInt8} (e:l=c::r)(h1: ¬(c=34\/c=39))(h2: ¬(c=91\/c=123))(hb:zh9 l=false):RdOf l zV 2:=by
 subst e;unfold RdOf;simp only;rw[if_neg h1,if_neg h2,if_neg (by rw[hb];decide)];exact⟨trivial,trivial⟩
theorem zs9(l:Bs): ∃k t,zc3 l= .mk k t [] []:=by
 rcases zn2 l with ⟨_,h⟩|⟨_,_,_,_,h⟩|⟨_,_,_,_,_,⟨_,h⟩|⟨_,h⟩⟩
 all_goals exact⟨_,_,h⟩
def zn1(l:Bs)(W:World)(e:Ending)(W':World):Prop:=
 ∃(y:Vt) (v:Vl) (er:Int),RdOf l v er/\e= .returned (.tuple #[y.v,.int .i64 er])/\y.Own 26 9 W.heap.size (fun _=>True) W'/\y.m=v/\Below W.heap.size W W'
theorem yrd_leaf {l:Bs} {W W':World} {k:Int} {t:Bs} {er:Int} (h:RdOf l (.mk k t [] []) er)(hb:Below W.heap.size W W'):zn1 l W (.returned (.tuple #[.agg #[.int .i64 k,.string (st t),.slice none 0 0,.slice none 0 0],.int .i64 er])) W':=
 ⟨Vt.mk k t ⟨none,0,[]⟩ none 0 [],_,er,h,by rw[Vt.v_mk'];rfl,zP6 k t _ _,by rw[Vt.m_mk];rfl,hb⟩
theorem zJ8(s:ByteArray)(W:World)(hE:Env W)(hs:s.size<=1099511627776):Calls Tryz.prog 9 #[.string s] W (zn1 s.data.toList W):=by
 have hst:st s.data.toList=s:=zo7 (by simp);obtain⟨rk,rt,hrk⟩:=zs9 s.data.toList;have HRS:Hq (∀V,Below W.heap.size W V->Calls Tryz.prog 17 #[.string s] V fun e W'=>e= .returned (.agg #[.int .i64 rk,.string (st rt),.slice none 0 0,.slice none 0 0])/\Below V.heap.size V W'):=hq (fun V h=>by
  have:=zs0 s V (hE.grow h) hs;unfold zJ7 at this;rw[hrk]at this;exact this)
 have HLF:Hq (∀(k:Int) (t:Bs) (er:Int) W',RdOf s.data.toList (.mk k t [] []) er->Below W.heap.size W W'->zn1 s.data.toList W (.returned (.tuple #[.agg #[.int .i64 k,.string (st t),.slice none 0 0,.slice none 0 0],.int .i64 er])) W'):=hq (fun k t er W' h hb=>yrd_leaf h hb);have E0:=zj5 s [];have HB0:=hq (za0 W (.cells #[.int .i64 0,.string ⟨#[]⟩,.slice none 0 0,.slice none 0 0] 26));have HW0:=hq (Whole.made W 26 #[.int .i64 0,.string ⟨#[]⟩,.slice none 0 0,.slice none 0 0]);by_cases h0:0<s.size
 ·have e0:(s.toList==[])=false:=by
   rw[E0];exact decide_eq_false (fun h=>by
    have hl:s.data.toList.length=s.size:=Array.length_toList;rw[h]at hl;simp at hl;omega)
  have y0:((s[0]'h0).toNat:Int)=(byt s 0:Int):=by rw[zb6 s 0 h0]
  have hc:=zg3 s 0 h0;rw[List.drop_zero]at hc;have l0:=zd3 s 0;have a1:UInt8.ofNat (byt s 0)=34↔byt s 0=34:=zd5 (m:=34) l0 (by omega);have a2:UInt8.ofNat (byt s 0)=39↔byt s 0=39:=zd5 (m:=39) l0 (by omega);have a3:UInt8.ofNat (byt s 0)=91↔byt s 0=91:=zd5 (m:=91) l0 (by omega);have a4:UInt8.ofNat (byt s 0)=123↔byt s 0=123:=zd5 (m:=123) l0 (by omega);have HQU:=hq (fun V (h:Below W.heap.size W V)=>yquot_any s V (hE.grow h).tab h0 hs);have HBA:=hq (fun V (h:Below W.heap.size W V)=>zp5 s V (hE.grow h).tab (by omega));have HRD:=hq (fun V (h:Below W.heap.size W V)=>readRead_any s V (hE.grow h) (by unfold maxLen;omega));have HOF:Hq (∀(u:Bs) V,Calls Tryz.prog 29 #[.string (st u)] V fun e W'=>e= .returned (.agg #[.int .i64 4,.string (st u),.slice none 0 0,.slice none 0 0])/\Below V.heap.size V W'):=hq (fun u V=>(zz7 u V).mono fun e W' h=>⟨by rw[h.1,zo5],h.2⟩);have HR1:Hq (byt s 0=34\/byt s 0=39->RdOf s.data.toList (if (zj4 s.data.toList).2=0 then .mk 4 (zj4 s.data.toList).1 [] [] else zV) (zj4 s.data.toList).2):=hq (fun h=>rd_quot hc (h.imp a1.2 a2.2));have HR2:Hq (byt s 0≠34->byt s 0≠39->byt s 0=91\/byt s 0=123->(∀q,zc2 s= .inl q->RdOf s.data.toList zV q.2)/\(∀ns v,zc2 s= .inr ns->Rv s ns 32 0 v ns.length->RdOf s.data.toList v 0)):=hq (fun h1 h2 h3=>by
   have:=rd_list hc (fun h=>h.elim (fun h=>h1 (a1.1 h)) (fun h=>h2 (a2.1 h))) (h3.imp a3.2 a4.2);rwa [hst]at this)
  have HR3:Hq (byt s 0≠34->byt s 0≠39->byt s 0≠91->byt s 0≠123->zh9 s.data.toList=false->RdOf s.data.toList zV 2):=hq (fun h1 h2 h3 h4 hb=>rd_bad hc (fun h=>h.elim (fun h=>h1 (a1.1 h)) (fun h=>h2 (a2.1 h))) (fun h=>h.elim (fun h=>h3 (a3.1 h)) (fun h=>h4 (a4.1 h))) hb);have HR4:Hq (zh9 s.data.toList=true->RdOf s.data.toList (.mk rk rt [] []) 0):=hq (fun h=>hrk▸read_bare h);have HRL:Hq (∀(y:Vt) (v:Vl) W',RdOf s.data.toList v 0->y.Own 26 9 W.heap.size (fun _=>True) W'->y.m=v->Below W.heap.size W W'->zn1 s.data.toList W (.returned (.tuple #[y.v,.int .i64 0])) W'):=hq (fun y v W' h1 h2 h3 h4=>⟨y,v,0,h1,rfl,h2,h3,h4⟩);generalize zn1 s.data.toList W=PP at *;generalize zj4 s.data.toList=QL at *;obtain⟨ub,ue⟩:=QL;generalize zh9 s.data.toList=BL at *;generalize RdOf s.data.toList=RR at *;generalize byt s 0=c0 at *;simp only at HR1 HQU;clear E0 hst hE hc a1 a2 a3 a4 hrk;go_enter Tryz.func9,Tryz.ntmps9
  go_upto_region 1 with fail
  obtain⟨g,HG⟩: ∃g,Hq (g=W.heap.size):=⟨_,hq rfl⟩;rw[←HG.o]at HW0 ⊢;generalize (W.alloc (.cells #[.int .i64 0,.string ⟨#[]⟩,.slice none 0 0,.slice none 0 0] 26))=V0 at *;have HPUT:=hq (fun V (h:Below W.heap.size W V) a b c d=>zg5 h (show W.heap.size<=g by rw[HG.o];exact Nat.le_refl _) a b c d);by_cases hq1:c0=34\/c0=39
  ·have HR1':=hq (HR1.o hq1);clear HR1 HR2 HR3 HR4 HRD HBA HRS HRL;by_cases hue:ue=0
   ·have HRX:Hq (RR (.mk 4 ub [] []) ue):=hq (by have:=HR1'.o;rwa [if_pos hue]at this);have e9:(ue !=0)=false:=by rw[hue];rfl
    have HZ:Hq (ue=0):=hq hue;clear HR1' hue;by_cases h34:c0=34
    ·have e1:((c0:Int)==34)=true:=by rw[h34];rfl
     clear hq1 h34;go_wp2_with fail
     refine(HQU.o V0 HB0.o).mono ?_;rintro e w1 ⟨rfl,hb1⟩;have HB1:=hq (za HB0.o hb1);have HW1:=hq (HW0.o.grow hb1);clear hb1 HQU;go_wp2_with fail
     refine(HOF.o ub _).mono ?_;rintro e w2 ⟨rfl,hb2⟩;have HB2:=hq (za HB1.o hb2);have hw2:=HW1.o.grow hb2;obtain⟨z0,z1,z2,z3⟩:=za1 hw2;have f0:=hw2.free 0;have f1:=hw2.free 1;have f2:=hw2.free 2;have f3:=hw2.free 3;have HV:=hq (HLF.o 4 ub 0 _ (HZ.o▸HRX.o) (HPUT.o _ HB2.o (.int .i64 4) (.string (st ub)) (.slice none 0 0) (.slice none 0 0)));clear HLF hw2 hb2 HOF;go_wp2_with fail
     refine bodyPost_ret (v:= .tuple #[.agg #[.int .i64 4,.string (st ub),.slice none 0 0,.slice none 0 0],.int .i64 0]) ?_ rfl HV.o;simp[results,Tryz.results9,go_sem,z0,z1,z2,z3]
    ·have e1:((c0:Int)==34)=false:=beq_eq_false_iff_ne.2 (by omega);have e2:((c0:Int)==39)=true:=by rw[show c0=39 by omega];rfl
     clear hq1 h34;go_wp2_with fail
     refine(HQU.o V0 HB0.o).mono ?_;rintro e w1 ⟨rfl,hb1⟩;have HB1:=hq (za HB0.o hb1);have HW1:=hq (HW0.o.grow hb1);clear hb1 HQU;go_wp2_with fail
     refine(HOF.o ub _).mono ?_;rintro e w2 ⟨rfl,hb2⟩;have HB2:=hq (za HB1.o hb2);have hw2:=HW1.o.grow hb2;obtain⟨z0,z1,z2,z3⟩:=za1 hw2;have f0:=hw2.free 0;have f1:=hw2.free 1;have f2:=hw2.free 2;have f3:=hw2.free 3;have HV:=hq (HLF.o 4 ub 0 _ (HZ.o▸HRX.o) (HPUT.o _ HB2.o (.int .i64 4) (.string (st ub)) (.slice none 0 0) (.slice none 0 0)));clear HLF hw2 hb2 HOF;go_wp2_with fail
     refine bodyPost_ret (v:= .tuple #[.agg #[.int .i64 4,.string (st ub),.slice none 0 0,.slice none 0 0],.int .i64 0]) ?_ rfl HV.o;simp[results,Tryz.results9,go_sem,z0,z1,z2,z3]
   ·have HRX:Hq (RR (.mk 0 [] [] []) ue):=hq (by have:=HR1'.o;rwa [if_neg hue]at this);have e9:(ue !=0)=true:=bne_iff_ne.2 hue;clear HR1' hue;by_cases h34:c0=34
    ·have e1:((c0:Int)==34)=true:=by rw[h34];rfl
     clear hq1 h34;go_wp2_with fail
     refine(HQU.o V0 HB0.o).mono ?_;rintro e w1 ⟨rfl,hb1⟩;have HB1:=hq (za HB0.o hb1);have hw1:=HW0.o.grow hb1;obtain⟨z0,z1,z2,z3⟩:=za1 hw1;have f0:=hw1.free 0;have f1:=hw1.free 1;have f2:=hw1.free 2;have f3:=hw1.free 3;have HV:=hq (HLF.o 0 [] ue _ HRX.o (HPUT.o _ HB1.o (.int .i64 0) (.string ⟨#[]⟩) (.slice none 0 0) (.slice none 0 0)));clear hb1 HQU HLF hw1;go_wp2_with fail
     refine bodyPost_ret (v:= .tuple #[.agg #[.int .i64 0,.string ⟨#[]⟩,.slice none 0 0,.slice none 0 0],.int .i64 ue]) ?_ rfl HV.o;simp[results,Tryz.results9,go_sem,z0,z1,z2,z3]
    ·have e1:((c0:Int)==34)=false:=beq_eq_false_iff_ne.2 (by omega);have e2:((c0:Int)==39)=true:=by rw[show c0=39 by omega];rfl
     clear hq1 h34;go_wp2_with fail
     refine(HQU.o V0 HB0.o).mono ?_;rintro e w1 ⟨rfl,hb1⟩;have HB1:=hq (za HB0.o hb1);have hw1:=HW0.o.grow hb1;obtain⟨z0,z1,z2,z3⟩:=za1 hw1;have f0:=hw1.free 0;have f1:=hw1.free 1;have f2:=hw1.free 2;have f3:=hw1.free 3;have HV:=hq (HLF.o 0 [] ue _ HRX.o (HPUT.o _ HB1.o (.int .i64 0) (.string ⟨#[]⟩) (.slice none 0 0) (.slice none 0 0)));clear hb1 HQU HLF hw1;go_wp2_with fail
     refine bodyPost_ret (v:= .tuple #[.agg #[.int .i64 0,.string ⟨#[]⟩,.slice none 0 0,.slice none 0 0],.int .i64 ue]) ?_ rfl HV.o;simp[results,Tryz.results9,go_sem,z0,z1,z2,z3]
  ·have n34:c0≠34:=fun h=>hq1 (.inl h)
   have n39:c0≠39:=fun h=>hq1 (.inr h)
   have e1:((c0:Int)==34)=false:=beq_eq_false_iff_ne.2 (by omega);have e2:((c0:Int)==39)=false:=beq_eq_false_iff_ne.2 (by omega);clear HR1 HQU HOF hq1;by_cases h91:c0=91
   ·have e3:((c0:Int)==91)=true:=by rw[h91];rfl
    have HRL2:=hq (HR2.o n34 n39 (.inl h91));clear HR2 HR3 HR4 HBA HRS n34 n39 h91;cases hp:zc2 s with
    |inl q=>
     obtain⟨wh,er⟩:=q;have HRQ:Hq (∀V,Below W.heap.size W V->Calls Tryz.prog 32 #[.string s] V fun e W'=>e= .returned (.tuple #[.agg #[.int .i64 0,.string ⟨#[]⟩,.slice none 0 0,.slice none 0 0],.int .i64 (wh:Int),.int .i64 er])/\Below V.heap.size V W'):=hq (fun V h=>(HRD.o V h).mono fun e W' h=>by unfold ze2 at h;rw[hp]at h;exact h);have HRX:Hq (RR (.mk 0 [] [] []) er):=hq (HRL2.o.1 _ hp);clear HRD HRL HRL2 hp;go_wp2_with fail
     refine(HRQ.o V0 HB0.o).mono ?_;rintro e w1 ⟨rfl,hb1⟩;have HB1:=hq (za HB0.o hb1);have HW1:=hq (HW0.o.grow hb1);clear hb1 HRQ;go_upto_region 13 with fail
     have hb2:=za0 w1 (.cells #[.int .i64 0,.string ⟨#[]⟩,.slice none 0 0,.slice none 0 0] 26);have HB2:=hq (za HB1.o hb2);have hw2:=HW1.o.grow hb2;obtain⟨y0,y1,y2,y3⟩:=za1 (Whole.made w1 26 #[.int .i64 0,.string ⟨#[]⟩,.slice none 0 0,.slice none 0 0]);generalize w1.heap.size=g6 at *;generalize w1.alloc (.cells #[.int .i64 0,.string ⟨#[]⟩,.slice none 0 0,.slice none 0 0] 26)=W2 at *;obtain⟨z0,z1,z2,z3⟩:=za1 hw2;have f0:=hw2.free 0;have f1:=hw2.free 1;have f2:=hw2.free 2;have f3:=hw2.free 3;have HV:=hq (HLF.o 0 [] er _ HRX.o (HPUT.o _ HB2.o (.int .i64 0) (.string ⟨#[]⟩) (.slice none 0 0) (.slice none 0 0)));clear HLF hb2 hw2;go_wp2_with fail
     refine bodyPost_ret (v:= .tuple #[.agg #[.int .i64 0,(.string ⟨#[]⟩),.slice none 0 0,.slice none 0 0],.int .i64 er]) ?_ rfl HV.o;simp[results,Tryz.results9,go_sem,z0,z1,z2,z3]
    |inr ns=>
     have HRQ:Hq (∀V,Below W.heap.size W V->Calls Tryz.prog 32 #[.string s] V fun e W'=> ∃(y:Vt) (v:Vl),Rv s ns 32 0 v ns.length/\e= .returned (.tuple #[y.v,.int .i64 (s.size:Int),.int .i64 0])/\y.Own 26 9 V.heap.size (fun _=>True) W'/\y.m=v/\Below V.heap.size V W'):=hq (fun V h=>(HRD.o V h).mono fun e W' h=>by unfold ze2 at h;rw[hp]at h;exact h);have HRX:=hq (fun v h=>HRL2.o.2 ns v hp h);clear HRD HLF HRL2 hp;have hgr0:g<V0.heap.size:=HW0.o.lt;go_wp2_with fail
     refine(HRQ.o V0 HB0.o).mono ?_;rintro e w1 ⟨y,v,hv,rfl,hyo,hym,hb1⟩;have HRV:=hq (HRX.o v hv);have HB1:=hq (za HB0.o hb1);have HW1:=hq (HW0.o.grow hb1);clear HRQ HRX hv;obtain⟨yk,yt,⟨yko,ykc,ykl⟩,yo,yc,yis⟩:=y;rw[Vt.v_mk'];have hb2:=za0 w1 (.cells #[.int .i64 yk,.string (st yt),.slice yko ykl.length ykc,.slice yo yis.length yc] 26);have HB2:=hq (za HB1.o hb2);have HW2:=hq (HW1.o.grow hb2);have HY2:=hq (hyo.grow hb2);have HX2:=hq (Whole.made w1 26 #[.int .i64 yk,.string (st yt),.slice yko ykl.length ykc,.slice yo yis.length yc]);clear hyo hb1 hb2;go_upto_region 13 with fail
     generalize (w1.alloc (.cells #[.int .i64 yk,.string (st yt),.slice yko ykl.length ykc,.slice yo yis.length yc] 26))=W2 at *;generalize w1.heap.size=g6 at *;obtain⟨z0,z1,z2,z3⟩:=za1 HW2.o;have f0:=HW2.o.free 0;have f1:=HW2.o.free 1;have f2:=HW2.o.free 2;have f3:=HW2.o.free 3;obtain⟨y0,y1,y2,y3⟩:=za1 HX2.o;have HV:=hq (HRL.o (Vt.mk yk yt ⟨yko,ykc,ykl⟩ yo yc yis) v _ HRV.o ((zp1 HY2.o hgr0 (.int .i64 yk) (.string (st yt)) (.slice yko ykl.length ykc) (.slice yo yis.length yc)).base (show W.heap.size<=V0.heap.size from HB0.o.size)) hym (zh3 HB2.o (Nat.le_of_eq HG.o.symm) (.int .i64 yk) (.string (st yt)) (.slice yko ykl.length ykc) (.slice yo yis.length yc)));clear hym HB2 HY2 HRL HB1 HW1 HRV;go_wp2_with fail
     refine bodyPost_ret (v:= .tuple #[(Vt.mk yk yt ⟨yko,ykc,ykl⟩ yo yc yis).v,.int .i64 0]) ?_ rfl HV.o;simp[results,Tryz.results9,go_sem,z0,z1,z2,z3,Vt.v_mk']
   ·have e3:((c0:Int)==91)=false:=beq_eq_false_iff_ne.2 (by omega);by_cases h123:c0=123
    ·have e4:((c0:Int)==123)=true:=by rw[h123];rfl
     have HRL2:=hq (HR2.o n34 n39 (.inr h123));clear HR2 HR3 HR4 HBA HRS n34 n39 h91 h123;cases hp:zc2 s with
     |inl q=>
      obtain⟨wh,er⟩:=q;have HRQ:Hq (∀V,Below W.heap.size W V->Calls Tryz.prog 32 #[.string s] V fun e W'=>e= .returned (.tuple #[.agg #[.int .i64 0,.string ⟨#[]⟩,.slice none 0 0,.slice none 0 0],.int .i64 (wh:Int),.int .i64 er])/\Below V.heap.size V W'):=hq (fun V h=>(HRD.o V h).mono fun e W' h=>by unfold ze2 at h;rw[hp]at h;exact h);have HRX:Hq (RR (.mk 0 [] [] []) er):=hq (HRL2.o.1 _ hp);clear HRD HRL HRL2 hp;go_wp2_with fail
      refine(HRQ.o V0 HB0.o).mono ?_;rintro e w1 ⟨rfl,hb1⟩;have HB1:=hq (za HB0.o hb1);have HW1:=hq (HW0.o.grow hb1);clear hb1 HRQ;go_upto_region 13 with fail
      have hb2:=za0 w1 (.cells #[.int .i64 0,.string ⟨#[]⟩,.slice none 0 0,.slice none 0 0] 26);have HB2:=hq (za HB1.o hb2);have hw2:=HW1.o.grow hb2;obtain⟨y0,y1,y2,y3⟩:=za1 (Whole.made w1 26 #[.int .i64 0,.string ⟨#[]⟩,.slice none 0 0,.slice none 0 0]);generalize w1.heap.size=g6 at *;generalize w1.alloc (.cells #[.int .i64 0,.string ⟨#[]⟩,.slice none 0 0,.slice none 0 0] 26)=W2 at *;obtain⟨z0,z1,z2,z3⟩:=za1 hw2;have f0:=hw2.free 0;have f1:=hw2.free 1;have f2:=hw2.free 2;have f3:=hw2.free 3;have HV:=hq (HLF.o 0 [] er _ HRX.o (HPUT.o _ HB2.o (.int .i64 0) (.string ⟨#[]⟩) (.slice none 0 0) (.slice none 0 0)));clear HLF hb2 hw2;go_wp2_with fail
      refine bodyPost_ret (v:= .tuple #[.agg #[.int .i64 0,(.string ⟨#[]⟩),.slice none 0 0,.slice none 0 0],.int .i64 er]) ?_ rfl HV.o;simp[results,Tryz.results9,go_sem,z0,z1,z2,z3]
     |inr ns=>
      have HRQ:Hq (∀V,Below W.heap.size W V->Calls Tryz.prog 32 #[.string s] V fun e W'=> ∃(y:Vt) (v:Vl),Rv s ns 32 0 v ns.length/\e= .returned (.tuple #[y.v,.int .i64 (s.size:Int),.int .i64 0])/\y.Own 26 9 V.heap.size (fun _=>True) W'/\y.m=v/\Below V.heap.size V W'):=hq (fun V h=>(HRD.o V h).mono fun e W' h=>by unfold ze2 at h;rw[hp]at h;exact h);have HRX:=hq (fun v h=>HRL2.o.2 ns v hp h);clear HRD HLF HRL2 hp;have hgr0:g<V0.heap.size:=HW0.o.lt;go_wp2_with fail
      refine(HRQ.o V0 HB0.o).mono ?_;rintro e w1 ⟨y,v,hv,rfl,hyo,hym,hb1⟩;have HRV:=hq (HRX.o v hv);have HB1:=hq (za HB0.o hb1);have HW1:=hq (HW0.o.grow hb1);clear HRQ HRX hv;obtain⟨yk,yt,⟨yko,ykc,ykl⟩,yo,yc,yis⟩:=y;rw[Vt.v_mk'];have hb2:=za0 w1 (.cells #[.int .i64 yk,.string (st yt),.slice yko ykl.length ykc,.slice yo yis.length yc] 26);have HB2:=hq (za HB1.o hb2);have HW2:=hq (HW1.o.grow hb2);have HY2:=hq (hyo.grow hb2);have HX2:=hq (Whole.made w1 26 #[.int .i64 yk,.string (st yt),.slice yko ykl.length ykc,.slice yo yis.length yc]);clear hyo hb1 hb2;go_upto_region 13 with fail
      generalize (w1.alloc (.cells #[.int .i64 yk,.string (st yt),.slice yko ykl.length ykc,.slice yo yis.length yc] 26))=W2 at *;generalize w1.heap.size=g6 at *;obtain⟨z0,z1,z2,z3⟩:=za1 HW2.o;have f0:=HW2.o.free 0;have f1:=HW2.o.free 1;have f2:=HW2.o.free 2;have f3:=HW2.o.free 3;obtain⟨y0,y1,y2,y3⟩:=za1 HX2.o;have HV:=hq (HRL.o (Vt.mk yk yt ⟨yko,ykc,ykl⟩ yo yc yis) v _ HRV.o ((zp1 HY2.o hgr0 (.int .i64 yk) (.string (st yt)) (.slice yko ykl.length ykc) (.slice yo yis.length yc)).base (show W.heap.size<=V0.heap.size from HB0.o.size)) hym (zh3 HB2.o (Nat.le_of_eq HG.o.symm) (.int .i64 yk) (.string (st yt)) (.slice yko ykl.length ykc) (.slice yo yis.length yc)));clear hym HB2 HY2 HRL HB1 HW1 HRV;go_wp2_with fail
      refine bodyPost_ret (v:= .tuple #[(Vt.mk yk yt ⟨yko,ykc,ykl⟩ yo yc yis).v,.int .i64 0]) ?_ rfl HV.o;simp[results,Tryz.results9,go_sem,z0,z1,z2,z3,Vt.v_mk']
    ·have e4:((c0:Int)==123)=false:=beq_eq_false_iff_ne.2 (by omega);cases BL with
     |false=>
      have HRX:=hq (HR3.o n34 n39 h91 h123 rfl);clear HR2 HR3 HR4 HRD HRS HRL n34 n39 h91 h123;go_wp2_with fail
      refine(HBA.o V0 HB0.o).mono ?_;rintro e w1 ⟨rfl,hb1⟩;have HB1:=hq (za HB0.o hb1);have hw1:=HW0.o.grow hb1;obtain⟨z0,z1,z2,z3⟩:=za1 hw1;have f0:=hw1.free 0;have f1:=hw1.free 1;have f2:=hw1.free 2;have f3:=hw1.free 3;have HV:=hq (HLF.o 0 [] 2 _ HRX.o (HPUT.o _ HB1.o (.int .i64 0) (.string ⟨#[]⟩) (.slice none 0 0) (.slice none 0 0)));clear HLF hb1 hw1 HBA;go_wp2_with fail
      refine bodyPost_ret (v:= .tuple #[.agg #[.int .i64 0,(.string ⟨#[]⟩),.slice none 0 0,.slice none 0 0],.int .i64 2]) ?_ rfl HV.o;simp[results,Tryz.results9,go_sem,z0,z1,z2,z3]
     |true=>
      have HRX:=hq (HR4.o rfl);clear HR2 HR3 HR4 HRD HRL n34 n39 h91 h123;go_wp2_with fail
      refine(HBA.o V0 HB0.o).mono ?_;rintro e w1 ⟨rfl,hb1⟩;have HB1:=hq (za HB0.o hb1);have HW1:=hq (HW0.o.grow hb1);clear hb1 HBA;go_wp2_with fail
      refine(HRS.o _ HB1.o).mono ?_;rintro e w2 ⟨rfl,hb2⟩;have HB2:=hq (za HB1.o hb2);have hw2:=HW1.o.grow hb2;obtain⟨z0,z1,z2,z3⟩:=za1 hw2;have f0:=hw2.free 0;have f1:=hw2.free 1;have f2:=hw2.free 2;have f3:=hw2.free 3;have HV:=hq (HLF.o rk rt 0 _ HRX.o (HPUT.o _ HB2.o (.int .i64 rk) (.string (st rt)) (.slice none 0 0) (.slice none 0 0)));clear HLF hb2 hw2 HRS;go_wp2_with fail
      refine bodyPost_ret (v:= .tuple #[.agg #[.int .i64 rk,(.string (st rt)),.slice none 0 0,.slice none 0 0],.int .i64 0]) ?_ rfl HV.o;simp[results,Tryz.results9,go_sem,z0,z1,z2,z3]
 ·have hnil:s.data.toList=[]:=by
   have:=zj3 s 0 h0;rwa [List.drop_zero]at this
  have e0:(s.toList==[])=true:=by rw[E0];exact decide_eq_true hnil
  have HRX:Hq (RdOf s.data.toList (.mk rk rt [] []) 0):=hq (by
   rw[←hrk,hnil];exact⟨rfl,rfl⟩)
  generalize zn1 s.data.toList W=PP at *;generalize RdOf s.data.toList=RR at *;clear E0 hst hE hrk hnil;go_enter Tryz.func9,Tryz.ntmps9
  go_upto_region 1 with fail
  obtain⟨g,HG⟩: ∃g,Hq (g=W.heap.size):=⟨_,hq rfl⟩;rw[←HG.o]at HW0 ⊢;generalize (W.alloc (.cells #[.int .i64 0,.string ⟨#[]⟩,.slice none 0 0,.slice none 0 0] 26))=V0 at *;have HPUT:=hq (fun V (h:Below W.heap.size W V) a b c d=>zg5 h (show W.heap.size<=g by rw[HG.o];exact Nat.le_refl _) a b c d);go_wp2_with fail
  refine(HRS.o _ HB0.o).mono ?_;rintro e w2 ⟨rfl,hb2⟩;have HB2:=hq (za HB0.o hb2);have hw2:=HW0.o.grow hb2;obtain⟨z0,z1,z2,z3⟩:=za1 hw2;have f0:=hw2.free 0;have f1:=hw2.free 1;have f2:=hw2.free 2;have f3:=hw2.free 3;have HV:=hq (HLF.o rk rt 0 _ HRX.o (HPUT.o _ HB2.o (.int .i64 rk) (.string (st rt)) (.slice none 0 0) (.slice none 0 0)));clear HLF hb2 hw2 HRS;go_wp2_with fail
  refine bodyPost_ret (v:= .tuple #[.agg #[.int .i64 rk,(.string (st rt)),.slice none 0 0,.slice none 0 0],.int .i64 0]) ?_ rfl HV.o;simp[results,Tryz.results9,go_sem,z0,z1,z2,z3]
end Go.Proofs.YtkafjblfjdpdaaaGreatDoor
