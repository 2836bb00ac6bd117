/-
  WALK: the document's own answer of layer 11: Read.
-/
import Derived.Test.YtkafjblfjdpdaaaGreatDoorYsS
import Derived.Test.YtkafjblfjdpdaaaGreatDoorYlRA
import Derived.Test.YtkafjblfjdpdaaaGreatDoorRdl
set_option maxHeartbeats 16000000
set_option maxRecDepth 1000000
namespace Go.Proofs.YtkafjblfjdpdaaaGreatDoor
open Go.RowKit
theorem rdOf_oneK {l r:Bs} {c:UInt8} (e:l=c::r)(hc:c=34\/c=39) {u v:Vl} {a b:Int} (h1:RdOf l u a)(h2:RdOf l v b):u=v/\a=b:=by
 subst e;unfold RdOf at h1 h2;simp only at h1 h2;rw[if_pos hc]at h1 h2;exact⟨h1.2.trans h2.2.symm,h1.1.trans h2.1.symm⟩
theorem quot_errK(l:Bs)(h:(zj4 l).2≠0):(zj4 l).1=[]:=by
 unfold zj4 at h ⊢;split at h
 ·rename_i h1;rw[if_pos h1];show(zb4 (st l)).1=[];have h:(zb4 (st l)).2.2≠0:=h;unfold zb4 at h ⊢;simp only at h ⊢;split
  ·rfl
  ·rename_i h2;rw[if_neg h2]at h;split
   ·rfl
   ·rename_i h3;rw[if_neg h3]at h;exact absurd rfl h
 ·rename_i h1;rw[if_neg h1];split at h
  ·exact absurd rfl h
  ·rename_i h2;rw[if_neg h2]
theorem zF5(s:ByteArray)(W:World)(hs:s.size<=1099511627776):Calls Tryz.prog 10 #[.string s] W (zn1 s.data.toList W):=by
 have hst:st s.data.toList=s:=zo7 (by simp);obtain⟨rk,rt,hrk⟩:=zs9 s.data.toList;have HRS:Hq (∀V,Below W.heap.size W V->Calls Tryz.prog 18 #[.string s] V fun e W'=>e= .returned (.agg #[.int .i64 rk,.string (st rt),.slice none 0 0,.slice none 0 0])/\Below V.heap.size V W'):=hq (fun V h=>by
  have:=zC s V hs;unfold zJ7 at this;rw[hrk]at this;exact this)
 have HLF:Hq (∀(k:Int) (t:Bs) (er:Int) W',RdOf s.data.toList (.mk k t [] []) er->Below W.heap.size W W'->zn1 s.data.toList W (.returned (.tuple #[.agg #[.int .i64 k,.string (st t),.slice none 0 0,.slice none 0 0],.int .i64 er])) W'):=hq (fun k t er W' h hb=>yrd_leaf h hb);have E0:=zj5 s [];have HB0:=hq (za0 W (.cells #[.int .i64 0,.string ⟨#[]⟩,.slice none 0 0,.slice none 0 0] 26));have HW0:=hq (Whole.made W 26 #[.int .i64 0,.string ⟨#[]⟩,.slice none 0 0,.slice none 0 0]);by_cases h0:0<s.size
 ·have e0:(s.toList==[])=false:=by
   rw[E0];exact decide_eq_false (fun h=>by
    have hl:s.data.toList.length=s.size:=Array.length_toList;rw[h]at hl;simp at hl;omega)
  have y0:((s[0]'h0).toNat:Int)=(byt s 0:Int):=by rw[zb6 s 0 h0]
  have hc:=zg3 s 0 h0;rw[List.drop_zero]at hc;have l0:=zd3 s 0;have a1:UInt8.ofNat (byt s 0)=34↔byt s 0=34:=zd5 (m:=34) l0 (by omega);have a2:UInt8.ofNat (byt s 0)=39↔byt s 0=39:=zd5 (m:=39) l0 (by omega);have a3:UInt8.ofNat (byt s 0)=91↔byt s 0=91:=zd5 (m:=91) l0 (by omega);have a4:UInt8.ofNat (byt s 0)=123↔byt s 0=123:=zd5 (m:=123) l0 (by omega);have HUN:=hq (fun V (_:Below W.heap.size W V)=>zp s V hs);have HSI:=hq (fun V (_:Below W.heap.size W V)=>rsingle_any s 0 V hs (by omega));have HQB:=hq (quot_byt h0);have HSG:Hq (((sglM s 0).2.2=0\/(sglM s 0).2.2=2)/\(sglM s 0).2.1<=s.size):=hq (by
   unfold sglM;rw[if_neg (by omega)];split
   ·exact ⟨.inr rfl,by simp⟩
   ·have:=zO s s.size ((0:Int).toNat+1) [] (by show 0+1<=s.size;omega);exact⟨this.2.2.1,this.2.1⟩)
  have HBA:=hq (fun V (h:Below W.heap.size W V)=>zG4 s V hs);have HRD:=hq (fun V (h:Below W.heap.size W V)=>rdocread_any s V (by unfold maxLen;omega));have HOF:Hq (∀(u:Bs) V,Calls Tryz.prog 36 #[.string (st u)] V fun e W'=>e= .returned (.agg #[.int .i64 4,.string (st u),.slice none 0 0,.slice none 0 0])/\Below V.heap.size V W'):=hq (fun u V=>(rOf_any u V).mono fun e W' h=>⟨by rw[h.1,zo5],h.2⟩);have HR1:Hq (byt s 0=34\/byt s 0=39->RdOf s.data.toList (if (zj4 s.data.toList).2=0 then .mk 4 (zj4 s.data.toList).1 [] [] else zV) (zj4 s.data.toList).2):=hq (fun h=>rd_quot hc (h.imp a1.2 a2.2));have HR2:Hq (byt s 0≠34->byt s 0≠39->byt s 0=91\/byt s 0=123->(∀q,zc2 s= .inl q->RdOf s.data.toList zV q.2)/\(∀ns v,zc2 s= .inr ns->Rv s ns 32 0 v ns.length->RdOf s.data.toList v 0)):=hq (fun h1 h2 h3=>by
   have:=rd_list hc (fun h=>h.elim (fun h=>h1 (a1.1 h)) (fun h=>h2 (a2.1 h))) (h3.imp a3.2 a4.2);rwa [hst]at this)
  have HR3:Hq (byt s 0≠34->byt s 0≠39->byt s 0≠91->byt s 0≠123->zh9 s.data.toList=false->RdOf s.data.toList zV 2):=hq (fun h1 h2 h3 h4 hb=>rd_bad hc (fun h=>h.elim (fun h=>h1 (a1.1 h)) (fun h=>h2 (a2.1 h))) (fun h=>h.elim (fun h=>h3 (a3.1 h)) (fun h=>h4 (a4.1 h))) hb);have HR4:Hq (zh9 s.data.toList=true->RdOf s.data.toList (.mk rk rt [] []) 0):=hq (fun h=>hrk▸read_bare h);have HRL:Hq (∀(y:Vt) (v:Vl) W',RdOf s.data.toList v 0->y.Own 26 9 W.heap.size (fun _=>True) W'->y.m=v->Below W.heap.size W W'->zn1 s.data.toList W (.returned (.tuple #[y.v,.int .i64 0])) W'):=hq (fun y v W' h1 h2 h3 h4=>⟨y,v,0,h1,rfl,h2,h3,h4⟩);generalize zn1 s.data.toList W=PP at *;generalize zj4 s.data.toList=QL at *;obtain⟨qb,qe⟩:=QL;generalize zb4 s=UM at *;obtain⟨ub,up,ue⟩:=UM;generalize sglM s 0=SM at *;obtain⟨sb,sp,se⟩:=SM;unfold zt8 at HUN;generalize zh9 s.data.toList=BL at *;generalize RdOf s.data.toList=RR at *;generalize byt s 0=c0 at *;simp only at HR1 HQB HUN HSI HSG;clear E0 hst hc a1 a2 a3 a4 hrk;go_enter Tryz.func10,Tryz.ntmps10
  go_upto_region 1 with fail
  obtain⟨g,HG⟩: ∃g,Hq (g=W.heap.size):=⟨_,hq rfl⟩;rw[←HG.o]at HW0 ⊢;generalize (W.alloc (.cells #[.int .i64 0,.string ⟨#[]⟩,.slice none 0 0,.slice none 0 0] 26))=V0 at *;have HPUT:=hq (fun V (h:Below W.heap.size W V) a b c d=>zg5 h (show W.heap.size<=g by rw[HG.o];exact Nat.le_refl _) a b c d);by_cases h34:c0=34
  ·have e1:((c0:Int)==34)=true:=by rw[h34];rfl
   have hqx:=HQB.o;rw[if_pos h34]at hqx;injection hqx with hqx1 hqx2
   subst hqx1 hqx2;have HR1':=hq (HR1.o (.inl h34));clear HR1 HR2 HR3 HR4 HRD HBA HRS HRL HSI HQB HSG;by_cases hue:qe=0
   ·have HRX:Hq (RR (.mk 4 qb [] []) 0):=hq (by have:=HR1'.o;rwa [if_pos hue,hue]at this);have e9:(qe !=0)=false:=by rw[hue];rfl
    clear HR1' hue h34;go_wp2_with fail
    refine(HUN.o V0 HB0.o).mono ?_;rintro e w1 ⟨rfl,hb1⟩;have HB1:=hq (za HB0.o hb1);have HW1:=hq (HW0.o.grow hb1);clear hb1 HUN;go_wp2_with fail
    refine(HOF.o qb _).mono ?_;rintro e w2 ⟨rfl,hb2⟩;have HB2:=hq (za HB1.o hb2);have hw2:=HW1.o.grow hb2;obtain⟨z0,z1,z2,z3⟩:=za1 hw2;have f0:=hw2.free 0;have f1:=hw2.free 1;have f2:=hw2.free 2;have f3:=hw2.free 3;have HV:=hq (HLF.o 4 qb 0 _ HRX.o (HPUT.o _ HB2.o (.int .i64 4) (.string (st qb)) (.slice none 0 0) (.slice none 0 0)));clear HLF hw2 hb2 HOF;go_wp2_with fail
    refine bodyPost_ret (v:= .tuple #[.agg #[.int .i64 4,.string (st qb),.slice none 0 0,.slice none 0 0],.int .i64 0]) ?_ rfl HV.o;simp[results,Tryz.results10,go_sem,z0,z1,z2,z3]
   ·have HRX:Hq (RR (.mk 0 [] [] []) qe):=hq (by have:=HR1'.o;rwa [if_neg hue]at this);have e9:(qe !=0)=true:=bne_iff_ne.2 hue;clear HR1' hue h34;go_wp2_with fail
    refine(HUN.o V0 HB0.o).mono ?_;rintro e w1 ⟨rfl,hb1⟩;have HB1:=hq (za HB0.o hb1);have hw1:=HW0.o.grow hb1;obtain⟨z0,z1,z2,z3⟩:=za1 hw1;have f0:=hw1.free 0;have f1:=hw1.free 1;have f2:=hw1.free 2;have f3:=hw1.free 3;have HV:=hq (HLF.o 0 [] qe _ HRX.o (HPUT.o _ HB1.o (.int .i64 0) (.string ⟨#[]⟩) (.slice none 0 0) (.slice none 0 0)));clear hb1 HUN HLF hw1;go_wp2_with fail
    refine bodyPost_ret (v:= .tuple #[.agg #[.int .i64 0,.string ⟨#[]⟩,.slice none 0 0,.slice none 0 0],.int .i64 qe]) ?_ rfl HV.o;simp[results,Tryz.results10,go_sem,z0,z1,z2,z3]
  by_cases h39:c0=39
  ·have e1:((c0:Int)==34)=false:=beq_eq_false_iff_ne.2 (by omega);have e2:((c0:Int)==39)=true:=by rw[h39];rfl
   have HR1':=hq (HR1.o (.inr h39));have HQC:=hq (HQB.o.trans (if_neg h34));clear HR1 HR2 HR3 HR4 HRD HBA HRS HRL HUN HQB;by_cases hse:se=0
   ·have e7:(se==0)=true:=by rw[hse];rfl
    by_cases hsp:sp=s.size
    ·have hqx:=HQC.o;rw[if_pos ⟨hse,hsp⟩]at hqx;injection hqx with hqx1 hqx2
     subst hqx1 hqx2;have HRX:Hq (RR (.mk 4 qb [] []) 0):=hq (by have:=HR1'.o;rwa [if_pos rfl]at this);have e8: ¬(sp:Int)<(s.size:Int):=by omega
     have e9:(se !=0)=false:=by rw[hse];rfl
     clear HR1' hse hsp h34 h39 HQC HSG;go_wp2_with fail
     refine(HSI.o V0 HB0.o).mono ?_;rintro e w1 ⟨rfl,rfl⟩;have HB1:=HB0;have HW1:=HW0;clear HSI;go_wp2_with fail
     refine(HOF.o qb _).mono ?_;rintro e w2 ⟨rfl,hb2⟩;have HB2:=hq (za HB1.o hb2);have hw2:=HW1.o.grow hb2;obtain⟨z0,z1,z2,z3⟩:=za1 hw2;have f0:=hw2.free 0;have f1:=hw2.free 1;have f2:=hw2.free 2;have f3:=hw2.free 3;have HV:=hq (HLF.o 4 qb 0 _ HRX.o (HPUT.o _ HB2.o (.int .i64 4) (.string (st qb)) (.slice none 0 0) (.slice none 0 0)));clear HLF hw2 hb2 HOF;go_wp2_with fail
     refine bodyPost_ret (v:= .tuple #[.agg #[.int .i64 4,.string (st qb),.slice none 0 0,.slice none 0 0],.int .i64 0]) ?_ rfl HV.o;simp[results,Tryz.results10,go_sem,z0,z1,z2,z3]
    ·have hqx:=HQC.o;rw[if_neg (fun h=>hsp h.2)]at hqx;injection hqx with hqx1 hqx2
     subst hqx1 hqx2;have HRX:Hq (RR (.mk 0 [] [] []) 2):=hq (by have:=HR1'.o;rwa [if_neg (by decide)]at this);have e8:(sp:Int)<(s.size:Int):=by have:=HSG.o.2;omega
     clear HR1' hse hsp h34 h39 HQC HSG;go_wp2_with fail
     refine(HSI.o V0 HB0.o).mono ?_;rintro e w1 ⟨rfl,rfl⟩;have hb1:=Below.refl V0.heap.size V0;have HB1:=hq (za HB0.o hb1);have hw1:=HW0.o.grow hb1;obtain⟨z0,z1,z2,z3⟩:=za1 hw1;have f0:=hw1.free 0;have f1:=hw1.free 1;have f2:=hw1.free 2;have f3:=hw1.free 3;have HV:=hq (HLF.o 0 [] 2 _ HRX.o (HPUT.o _ HB1.o (.int .i64 0) (.string ⟨#[]⟩) (.slice none 0 0) (.slice none 0 0)));clear hb1 HSI HLF hw1;go_wp2_with fail
     refine bodyPost_ret (v:= .tuple #[.agg #[.int .i64 0,.string ⟨#[]⟩,.slice none 0 0,.slice none 0 0],.int .i64 2]) ?_ rfl HV.o;simp[results,Tryz.results10,go_sem,z0,z1,z2,z3]
   ·have e7:(se==0)=false:=beq_eq_false_iff_ne.2 hse;have hqx:=HQC.o;rw[if_neg (fun h=>hse h.1)]at hqx;injection hqx with hqx1 hqx2
    subst hqx1 hqx2;have hs2:se=2:=HSG.o.1.resolve_left hse;subst hs2;have HRX:Hq (RR (.mk 0 [] [] []) 2):=hq (by have:=HR1'.o;rwa [if_neg (by decide)]at this);clear HR1' hse h34 h39 HQC HSG;go_wp2_with fail
    refine(HSI.o V0 HB0.o).mono ?_;rintro e w1 ⟨rfl,rfl⟩;have hb1:=Below.refl V0.heap.size V0;have HB1:=hq (za HB0.o hb1);have hw1:=HW0.o.grow hb1;obtain⟨z0,z1,z2,z3⟩:=za1 hw1;have f0:=hw1.free 0;have f1:=hw1.free 1;have f2:=hw1.free 2;have f3:=hw1.free 3;have HV:=hq (HLF.o 0 [] 2 _ HRX.o (HPUT.o _ HB1.o (.int .i64 0) (.string ⟨#[]⟩) (.slice none 0 0) (.slice none 0 0)));clear hb1 HSI HLF hw1;go_wp2_with fail
    refine bodyPost_ret (v:= .tuple #[.agg #[.int .i64 0,.string ⟨#[]⟩,.slice none 0 0,.slice none 0 0],.int .i64 2]) ?_ rfl HV.o;simp[results,Tryz.results10,go_sem,z0,z1,z2,z3]
  ·have n34:c0≠34:=h34;have n39:c0≠39:=h39;have e1:((c0:Int)==34)=false:=beq_eq_false_iff_ne.2 (by omega);have e2:((c0:Int)==39)=false:=beq_eq_false_iff_ne.2 (by omega);clear HR1 HUN HSI HQB HSG HOF h34 h39;by_cases h91:c0=91
   ·have e3:((c0:Int)==91)=true:=by rw[h91];rfl
    have HRL2:=hq (HR2.o n34 n39 (.inl h91));clear HR2 HR3 HR4 HBA HRS n34 n39 h91;cases hp:zc2 s with
    |inl q=>
     obtain⟨wh,er⟩:=q;have HRQ:Hq (∀V,Below W.heap.size W V->Calls Tryz.prog 35 #[.string s] V fun e W'=>e= .returned (.tuple #[.agg #[.int .i64 0,.string ⟨#[]⟩,.slice none 0 0,.slice none 0 0],.int .i64 (wh:Int),.int .i64 er])/\Below V.heap.size V W'):=hq (fun V h=>(HRD.o V h).mono fun e W' h=>by unfold ze2 at h;rw[hp]at h;exact h);have HRX:Hq (RR (.mk 0 [] [] []) er):=hq (HRL2.o.1 _ hp);clear HRD HRL HRL2 hp;go_wp2_with fail
     refine(HRQ.o V0 HB0.o).mono ?_;rintro e w1 ⟨rfl,hb1⟩;have HB1:=hq (za HB0.o hb1);have HW1:=hq (HW0.o.grow hb1);clear hb1 HRQ;go_upto_region 20 with fail
     have hb2:=za0 w1 (.cells #[.int .i64 0,.string ⟨#[]⟩,.slice none 0 0,.slice none 0 0] 26);have HB2:=hq (za HB1.o hb2);have hw2:=HW1.o.grow hb2;obtain⟨y0,y1,y2,y3⟩:=za1 (Whole.made w1 26 #[.int .i64 0,.string ⟨#[]⟩,.slice none 0 0,.slice none 0 0]);generalize w1.heap.size=g6 at *;generalize w1.alloc (.cells #[.int .i64 0,.string ⟨#[]⟩,.slice none 0 0,.slice none 0 0] 26)=W2 at *;obtain⟨z0,z1,z2,z3⟩:=za1 hw2;have f0:=hw2.free 0;have f1:=hw2.free 1;have f2:=hw2.free 2;have f3:=hw2.free 3;have HV:=hq (HLF.o 0 [] er _ HRX.o (HPUT.o _ HB2.o (.int .i64 0) (.string ⟨#[]⟩) (.slice none 0 0) (.slice none 0 0)));clear HLF hb2 hw2;go_wp2_with fail
     refine bodyPost_ret (v:= .tuple #[.agg #[.int .i64 0,(.string ⟨#[]⟩),.slice none 0 0,.slice none 0 0],.int .i64 er]) ?_ rfl HV.o;simp[results,Tryz.results10,go_sem,z0,z1,z2,z3]
    |inr ns=>
     have HRQ:Hq (∀V,Below W.heap.size W V->Calls Tryz.prog 35 #[.string s] V fun e W'=> ∃(y:Vt) (v:Vl),Rv s ns 32 0 v ns.length/\e= .returned (.tuple #[y.v,.int .i64 (s.size:Int),.int .i64 0])/\y.Own 26 9 V.heap.size (fun _=>True) W'/\y.m=v/\Below V.heap.size V W'):=hq (fun V h=>(HRD.o V h).mono fun e W' h=>by unfold ze2 at h;rw[hp]at h;exact h);have HRX:=hq (fun v h=>HRL2.o.2 ns v hp h);clear HRD HLF HRL2 hp;have hgr0:g<V0.heap.size:=HW0.o.lt;go_wp2_with fail
     refine(HRQ.o V0 HB0.o).mono ?_;rintro e w1 ⟨y,v,hv,rfl,hyo,hym,hb1⟩;have HRV:=hq (HRX.o v hv);have HB1:=hq (za HB0.o hb1);have HW1:=hq (HW0.o.grow hb1);clear HRQ HRX hv;obtain⟨yk,yt,⟨yko,ykc,ykl⟩,yo,yc,yis⟩:=y;rw[Vt.v_mk'];have hb2:=za0 w1 (.cells #[.int .i64 yk,.string (st yt),.slice yko ykl.length ykc,.slice yo yis.length yc] 26);have HB2:=hq (za HB1.o hb2);have HW2:=hq (HW1.o.grow hb2);have HY2:=hq (hyo.grow hb2);have HX2:=hq (Whole.made w1 26 #[.int .i64 yk,.string (st yt),.slice yko ykl.length ykc,.slice yo yis.length yc]);clear hyo hb1 hb2;go_upto_region 20 with fail
     generalize (w1.alloc (.cells #[.int .i64 yk,.string (st yt),.slice yko ykl.length ykc,.slice yo yis.length yc] 26))=W2 at *;generalize w1.heap.size=g6 at *;obtain⟨z0,z1,z2,z3⟩:=za1 HW2.o;have f0:=HW2.o.free 0;have f1:=HW2.o.free 1;have f2:=HW2.o.free 2;have f3:=HW2.o.free 3;obtain⟨y0,y1,y2,y3⟩:=za1 HX2.o;have HV:=hq (HRL.o (Vt.mk yk yt ⟨yko,ykc,ykl⟩ yo yc yis) v _ HRV.o ((zp1 HY2.o hgr0 (.int .i64 yk) (.string (st yt)) (.slice yko ykl.length ykc) (.slice yo yis.length yc)).base (show W.heap.size<=V0.heap.size from HB0.o.size)) hym (zh3 HB2.o (Nat.le_of_eq HG.o.symm) (.int .i64 yk) (.string (st yt)) (.slice yko ykl.length ykc) (.slice yo yis.length yc)));clear hym HB2 HY2 HRL HB1 HW1 HRV;go_wp2_with fail
     refine bodyPost_ret (v:= .tuple #[(Vt.mk yk yt ⟨yko,ykc,ykl⟩ yo yc yis).v,.int .i64 0]) ?_ rfl HV.o;simp[results,Tryz.results10,go_sem,z0,z1,z2,z3,Vt.v_mk']
   ·have e3:((c0:Int)==91)=false:=beq_eq_false_iff_ne.2 (by omega);by_cases h123:c0=123
    ·have e4:((c0:Int)==123)=true:=by rw[h123];rfl
     have HRL2:=hq (HR2.o n34 n39 (.inr h123));clear HR2 HR3 HR4 HBA HRS n34 n39 h91 h123;cases hp:zc2 s with
     |inl q=>
      obtain⟨wh,er⟩:=q;have HRQ:Hq (∀V,Below W.heap.size W V->Calls Tryz.prog 35 #[.string s] V fun e W'=>e= .returned (.tuple #[.agg #[.int .i64 0,.string ⟨#[]⟩,.slice none 0 0,.slice none 0 0],.int .i64 (wh:Int),.int .i64 er])/\Below V.heap.size V W'):=hq (fun V h=>(HRD.o V h).mono fun e W' h=>by unfold ze2 at h;rw[hp]at h;exact h);have HRX:Hq (RR (.mk 0 [] [] []) er):=hq (HRL2.o.1 _ hp);clear HRD HRL HRL2 hp;go_wp2_with fail
      refine(HRQ.o V0 HB0.o).mono ?_;rintro e w1 ⟨rfl,hb1⟩;have HB1:=hq (za HB0.o hb1);have HW1:=hq (HW0.o.grow hb1);clear hb1 HRQ;go_upto_region 20 with fail
      have hb2:=za0 w1 (.cells #[.int .i64 0,.string ⟨#[]⟩,.slice none 0 0,.slice none 0 0] 26);have HB2:=hq (za HB1.o hb2);have hw2:=HW1.o.grow hb2;obtain⟨y0,y1,y2,y3⟩:=za1 (Whole.made w1 26 #[.int .i64 0,.string ⟨#[]⟩,.slice none 0 0,.slice none 0 0]);generalize w1.heap.size=g6 at *;generalize w1.alloc (.cells #[.int .i64 0,.string ⟨#[]⟩,.slice none 0 0,.slice none 0 0] 26)=W2 at *;obtain⟨z0,z1,z2,z3⟩:=za1 hw2;have f0:=hw2.free 0;have f1:=hw2.free 1;have f2:=hw2.free 2;have f3:=hw2.free 3;have HV:=hq (HLF.o 0 [] er _ HRX.o (HPUT.o _ HB2.o (.int .i64 0) (.string ⟨#[]⟩) (.slice none 0 0) (.slice none 0 0)));clear HLF hb2 hw2;go_wp2_with fail
      refine bodyPost_ret (v:= .tuple #[.agg #[.int .i64 0,(.string ⟨#[]⟩),.slice none 0 0,.slice none 0 0],.int .i64 er]) ?_ rfl HV.o;simp[results,Tryz.results10,go_sem,z0,z1,z2,z3]
     |inr ns=>
      have HRQ:Hq (∀V,Below W.heap.size W V->Calls Tryz.prog 35 #[.string s] V fun e W'=> ∃(y:Vt) (v:Vl),Rv s ns 32 0 v ns.length/\e= .returned (.tuple #[y.v,.int .i64 (s.size:Int),.int .i64 0])/\y.Own 26 9 V.heap.size (fun _=>True) W'/\y.m=v/\Below V.heap.size V W'):=hq (fun V h=>(HRD.o V h).mono fun e W' h=>by unfold ze2 at h;rw[hp]at h;exact h);have HRX:=hq (fun v h=>HRL2.o.2 ns v hp h);clear HRD HLF HRL2 hp;have hgr0:g<V0.heap.size:=HW0.o.lt;go_wp2_with fail
      refine(HRQ.o V0 HB0.o).mono ?_;rintro e w1 ⟨y,v,hv,rfl,hyo,hym,hb1⟩;have HRV:=hq (HRX.o v hv);have HB1:=hq (za HB0.o hb1);have HW1:=hq (HW0.o.grow hb1);clear HRQ HRX hv;obtain⟨yk,yt,⟨yko,ykc,ykl⟩,yo,yc,yis⟩:=y;rw[Vt.v_mk'];have hb2:=za0 w1 (.cells #[.int .i64 yk,.string (st yt),.slice yko ykl.length ykc,.slice yo yis.length yc] 26);have HB2:=hq (za HB1.o hb2);have HW2:=hq (HW1.o.grow hb2);have HY2:=hq (hyo.grow hb2);have HX2:=hq (Whole.made w1 26 #[.int .i64 yk,.string (st yt),.slice yko ykl.length ykc,.slice yo yis.length yc]);clear hyo hb1 hb2;go_upto_region 20 with fail
      generalize (w1.alloc (.cells #[.int .i64 yk,.string (st yt),.slice yko ykl.length ykc,.slice yo yis.length yc] 26))=W2 at *;generalize w1.heap.size=g6 at *;obtain⟨z0,z1,z2,z3⟩:=za1 HW2.o;have f0:=HW2.o.free 0;have f1:=HW2.o.free 1;have f2:=HW2.o.free 2;have f3:=HW2.o.free 3;obtain⟨y0,y1,y2,y3⟩:=za1 HX2.o;have HV:=hq (HRL.o (Vt.mk yk yt ⟨yko,ykc,ykl⟩ yo yc yis) v _ HRV.o ((zp1 HY2.o hgr0 (.int .i64 yk) (.string (st yt)) (.slice yko ykl.length ykc) (.slice yo yis.length yc)).base (show W.heap.size<=V0.heap.size from HB0.o.size)) hym (zh3 HB2.o (Nat.le_of_eq HG.o.symm) (.int .i64 yk) (.string (st yt)) (.slice yko ykl.length ykc) (.slice yo yis.length yc)));clear hym HB2 HY2 HRL HB1 HW1 HRV;go_wp2_with fail
      refine bodyPost_ret (v:= .tuple #[(Vt.mk yk yt ⟨yko,ykc,ykl⟩ yo yc yis).v,.int .i64 0]) ?_ rfl HV.o;simp[results,Tryz.results10,go_sem,z0,z1,z2,z3,Vt.v_mk']
    ·have e4:((c0:Int)==123)=false:=beq_eq_false_iff_ne.2 (by omega);cases BL with
     |false=>
      have HRX:=hq (HR3.o n34 n39 h91 h123 rfl);clear HR2 HR3 HR4 HRD HRS HRL n34 n39 h91 h123;go_wp2_with fail
      refine(HBA.o V0 HB0.o).mono ?_;rintro e w1 ⟨rfl,hb1⟩;have HB1:=hq (za HB0.o hb1);have hw1:=HW0.o.grow hb1;obtain⟨z0,z1,z2,z3⟩:=za1 hw1;have f0:=hw1.free 0;have f1:=hw1.free 1;have f2:=hw1.free 2;have f3:=hw1.free 3;have HV:=hq (HLF.o 0 [] 2 _ HRX.o (HPUT.o _ HB1.o (.int .i64 0) (.string ⟨#[]⟩) (.slice none 0 0) (.slice none 0 0)));clear HLF hb1 hw1 HBA;go_wp2_with fail
      refine bodyPost_ret (v:= .tuple #[.agg #[.int .i64 0,(.string ⟨#[]⟩),.slice none 0 0,.slice none 0 0],.int .i64 2]) ?_ rfl HV.o;simp[results,Tryz.results10,go_sem,z0,z1,z2,z3]
     |true=>
      have HRX:=hq (HR4.o rfl);clear HR2 HR3 HR4 HRD HRL n34 n39 h91 h123;go_wp2_with fail
      refine(HBA.o V0 HB0.o).mono ?_;rintro e w1 ⟨rfl,hb1⟩;have HB1:=hq (za HB0.o hb1);have HW1:=hq (HW0.o.grow hb1);clear hb1 HBA;go_wp2_with fail
      refine(HRS.o _ HB1.o).mono ?_;rintro e w2 ⟨rfl,hb2⟩;have HB2:=hq (za HB1.o hb2);have hw2:=HW1.o.grow hb2;obtain⟨z0,z1,z2,z3⟩:=za1 hw2;have f0:=hw2.free 0;have f1:=hw2.free 1;have f2:=hw2.free 2;have f3:=hw2.free 3;have HV:=hq (HLF.o rk rt 0 _ HRX.o (HPUT.o _ HB2.o (.int .i64 rk) (.string (st rt)) (.slice none 0 0) (.slice none 0 0)));clear HLF hb2 hw2 HRS;go_wp2_with fail
      refine bodyPost_ret (v:= .tuple #[.agg #[.int .i64 rk,(.string (st rt)),.slice none 0 0,.slice none 0 0],.int .i64 0]) ?_ rfl HV.o;simp[results,Tryz.results10,go_sem,z0,z1,z2,z3]
 ·have hnil:s.data.toList=[]:=by
   have:=zj3 s 0 h0;rwa [List.drop_zero]at this
  have e0:(s.toList==[])=true:=by rw[E0];exact decide_eq_true hnil
  have HRX:Hq (RdOf s.data.toList (.mk rk rt [] []) 0):=hq (by
   rw[←hrk,hnil];exact⟨rfl,rfl⟩)
  generalize zn1 s.data.toList W=PP at *;generalize RdOf s.data.toList=RR at *;clear E0 hst hrk hnil;go_enter Tryz.func10,Tryz.ntmps10
  go_upto_region 1 with fail
  obtain⟨g,HG⟩: ∃g,Hq (g=W.heap.size):=⟨_,hq rfl⟩;rw[←HG.o]at HW0 ⊢;generalize (W.alloc (.cells #[.int .i64 0,.string ⟨#[]⟩,.slice none 0 0,.slice none 0 0] 26))=V0 at *;have HPUT:=hq (fun V (h:Below W.heap.size W V) a b c d=>zg5 h (show W.heap.size<=g by rw[HG.o];exact Nat.le_refl _) a b c d);go_wp2_with fail
  refine(HRS.o _ HB0.o).mono ?_;rintro e w2 ⟨rfl,hb2⟩;have HB2:=hq (za HB0.o hb2);have hw2:=HW0.o.grow hb2;obtain⟨z0,z1,z2,z3⟩:=za1 hw2;have f0:=hw2.free 0;have f1:=hw2.free 1;have f2:=hw2.free 2;have f3:=hw2.free 3;have HV:=hq (HLF.o rk rt 0 _ HRX.o (HPUT.o _ HB2.o (.int .i64 rk) (.string (st rt)) (.slice none 0 0) (.slice none 0 0)));clear HLF hb2 hw2 HRS;go_wp2_with fail
  refine bodyPost_ret (v:= .tuple #[.agg #[.int .i64 rk,(.string (st rt)),.slice none 0 0,.slice none 0 0],.int .i64 0]) ?_ rfl HV.o;simp[results,Tryz.results10,go_sem,z0,z1,z2,z3]
theorem rkey_any(s:ByteArray)(w:World)(hs:s.size<=1099511627776):
 Calls Tryz.prog 14 #[.string s] w (zt9 (keyL s.data.toList) w):=by
 have hst:st s.data.toList=s:=zo7 (by simp);have HSS:Hq (s=st s.data.toList):=hq hst.symm;have HRD:=hq (fun W=>zF5 s W hs);have HBA:=hq (fun W=>zG4 s W hs);have HFI:Hq (∀b u (er:Int) W',keyL s.data.toList=(b,er)->u=st b->Below w.heap.size w W'->zt9 (keyL s.data.toList) w (.returned (.tuple #[.string u,.int .i64 er])) W'):=hq (fun b u er W' h1 h2 h3=>by rw[h1,h2];exact⟨rfl,h3⟩);generalize zt9 (keyL s.data.toList) w=PP at *;have HB:=hq (Below.refl w.heap.size w);by_cases h0:0<s.size
 ·have y0:((s[0]'h0).toNat:Int)=(byt s 0:Int):=by rw[zb6 s 0 h0]
  have g0:(0:Int)<(s.size:Int):=by omega
  have HK:=hq (key_byt h0);have hc:=zg3 s 0 h0;rw[List.drop_zero]at hc;have l0:=zd3 s 0;have a1:UInt8.ofNat (byt s 0)=34↔byt s 0=34:=zd5 (m:=34) l0 (by omega);have a2:UInt8.ofNat (byt s 0)=39↔byt s 0=39:=zd5 (m:=39) l0 (by omega);by_cases hq1:byt s 0=34\/byt s 0=39
  ·have HN:Hq (keyL s.data.toList=zj4 s.data.toList):=hq (HK.o.trans (if_pos hq1));have HRX:Hq (∀v er,RdOf s.data.toList v er->er=(zj4 s.data.toList).2/\v.t=(zj4 s.data.toList).1):=hq (fun v er h=>by
    have h2:=rd_quot hc (hq1.imp a1.2 a2.2);obtain⟨rfl,rfl⟩:=rdOf_oneK hc (hq1.imp a1.2 a2.2) h h2;refine⟨rfl,?_⟩;by_cases he:(zj4 s.data.toList).2=0
    ·rw[if_pos he];rfl
    ·rw[if_neg he,quot_errK _ he];rfl)
   generalize keyL s.data.toList=V at *;generalize zj4 s.data.toList=Q at *;obtain⟨qb,qe⟩:=Q;have h34:((byt s 0:Int)==34)=true\/(((byt s 0:Int)==34)=false/\((byt s 0:Int)==39)=true):=by
    rcases hq1 with h|h
    ·exact .inl (by rw[h];rfl)
    ·exact .inr (by rw[h];exact⟨rfl,rfl⟩)
   clear hc a1 a2 l0 HK hq1 HBA hst HSS;generalize byt s 0=c0 at *;simp only at HRX;rcases h34 with e1|⟨e1,e2⟩
   all_goals
    go_enter Tryz.func14,Tryz.ntmps14
    go_wp2_with fail
    refine(HRD.o _).mono ?_;rintro e w1 ⟨y,v,er,hr,rfl,_,hm,hb⟩;obtain⟨rfl,hvt⟩:=HRX.o v er hr;obtain⟨yk,yt,⟨yko,ykc,ykl⟩,yo,yc,yis⟩:=y;have hyt:yt=qb:=by rw[←hvt,←hm,Vt.m_mk];rfl
    subst hyt;rw[Vt.v_mk'];go_upto_region 3 with fail
    have HV:=hq (HFI.o yt (st yt) er _ HN.o rfl (za hb (za0 w1 (.cells #[.int .i64 yk,.string (st yt),.slice yko ykl.length ykc,.slice yo yis.length yc] 26))));obtain⟨z0,z1,z2,z3⟩:=za1 (Whole.made w1 26 #[.int .i64 yk,.string (st yt),.slice yko ykl.length ykc,.slice yo yis.length yc]);clear HFI HN hb hr hm hvt HRX HRD;generalize (w1.alloc (.cells #[.int .i64 yk,.string (st yt),.slice yko ykl.length ykc,.slice yo yis.length yc] 26))=w2 at *;generalize w1.heap.size=g at *;go_wp2_with fail
    first|exact HV.o|(go_ret2;exact HV.o)
  ·have HN:=hq (HK.o.trans (if_neg hq1));have e1:((byt s 0:Int)==34)=false:=beq_eq_false_iff_ne.2 (fun e=>hq1 (.inl (by omega)));have e2:((byt s 0:Int)==39)=false:=beq_eq_false_iff_ne.2 (fun e=>hq1 (.inr (by omega)));generalize keyL s.data.toList=V at *;generalize zh9 s.data.toList=BL at *;generalize s.data.toList=L at *;clear hc a1 a2 l0 HK hq1 HRD hst;generalize byt s 0=c0 at *;go_enter Tryz.func14,Tryz.ntmps14
   go_wp2_with fail
   refine(HBA.o _).mono ?_;rintro e w1 ⟨rfl,hb⟩;cases BL with
   |true=>
    have HV:=hq (HFI.o L s 0 w1 HN.o HSS.o hb);clear HFI HN hb HBA HSS;go_wp2_with fail
    first|exact HV.o|(go_ret2;exact HV.o)
   |false=>
    have HV:=hq (HFI.o [] ⟨#[]⟩ 2 w1 HN.o rfl hb);clear HFI HN hb HBA HSS;go_wp2_with fail
    first|exact HV.o|(go_ret2;exact HV.o)
 ·have hnil:s.data.toList=[]:=by
   have:=zj3 s 0 h0;rwa [List.drop_zero]at this
  have hbn:zh9 s.data.toList=false:=by rw[hnil];rfl
  have HN:Hq (keyL s.data.toList=([],2)):=hq (by rw[hnil];rfl);have g0: ¬(0:Int)<(s.size:Int):=by omega
  rw[hbn]at HBA;generalize keyL s.data.toList=V at *;clear hnil hbn hst HSS HRD h0;go_enter Tryz.func14,Tryz.ntmps14
  go_wp2_with fail
  refine(HBA.o _).mono ?_;rintro e w1 ⟨rfl,hb⟩;have HV:=hq (HFI.o [] ⟨#[]⟩ 2 w1 HN.o rfl hb);clear HFI HN hb HBA;go_wp2_with fail
  first|exact HV.o|(go_ret2;exact HV.o)
end Go.Proofs.YtkafjblfjdpdaaaGreatDoor
