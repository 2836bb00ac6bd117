/-
  WALK: the law YscalarReads.
-/
import Derived.Test.YtkafjblfjdpdaaaGreatDoorYsV
set_option maxHeartbeats 32000000
set_option maxRecDepth 1000000
namespace Go.Proofs.YtkafjblfjdpdaaaGreatDoor
open Go.RowKit
theorem yreads_law(s:ByteArray)(w:World)(hE:Env w)(hm:mx w)(_hs:s.size<=maxLen):Calls Tryz.prog 3 #[.string s] w (zm9 true w):=by
 have HSM:Hq (∀V,Below w.heap.size w V->Calls Tryz.prog 8 #[] V (fun e W'=>e= .returned (.bool true)/\Below V.heap.size V W')):=hq (fun V h=>small11_any V (hE.grow h) (zo4 hm h));have HFI:Hq (∀W',Below w.heap.size w W'->zm9 true w (.returned (.bool true)) W'):=hq (fun W' h=>⟨rfl,h⟩);by_cases hz:2048<s.size
 ·have hz1:(2048:Int)<(s.size:Int):=by omega
  generalize zm9 true w=PP at *;clear hE hm;go_enter Tryz.func3,Tryz.ntmps3
  go_wp2_with fail
  refine(HSM.o w (Below.refl _ _)).mono ?_;rintro e w1 ⟨rfl,hb⟩;have HV:=hq (HFI.o w1 hb);clear hb HSM HFI;go_wp2_with fail
  first|exact HV.o|(go_ret;exact HV.o)
 have hz1: ¬(2048:Int)<(s.size:Int):=by omega
 have h4:s.size<=2048:=by omega
 have hl:s.data.toList.length=s.size:=Array.length_toList;obtain⟨rk,rt,hrk⟩:=zs9 s.data.toList;have hrng:(zc3 s.data.toList).All Vl.Rng:=zw8 _ (by omega);have HR1:=hq (fun V (h:Below w.heap.size w V)=>zJ8 s V (hE.grow h) (by omega));have HR2:=hq (fun V (_:Below w.heap.size w V)=>zF5 s V (by omega));unfold zn1 at HR1 HR2;have HOK:=hq (fun (B:Nat) (y:Vt) (v:Vl) (er:Int) V (h:RdOf s.data.toList v er) (hy:y.Own 26 9 B (fun _=>True) V) (hm:y.m=v)=>(show y.Ok V from hy.ok (by rw[hm];exact rd_rngY h (by omega))));have HONE:=hq (fun (u v:Vl) (a b:Int) (h1:RdOf s.data.toList u a) (h2:RdOf s.data.toList v b)=>rdOf_one h1 h2);have HEQ:Hq (∀(y z:Vt) V,y.Ok V->z.Ok V->y.m=z.m->Calls Tryz.prog 11 #[y.v,z.v] V (fun e W=>e= .returned (.bool true)/\Below V.heap.size V W)):=hq (fun y z V hy hz hm=>(zH9 y z V hy hz).mono fun e W ⟨v,h1,h2,h3⟩=>⟨by rw[h1,h2.2 hm],h3⟩);have HSP:=hq (fun (B:Nat) (y:Vt) (V:World) (h:y.Own 26 9 B (fun _=>True) V) (hB:B<=V.heap.size)=>spoilO_any h hB);unfold SpPost at HSP;have HK1:=hq (fun V (h:Below w.heap.size w V)=>ykeyR_any s V (hE.grow h).tab (by omega));have HK2:=hq (fun V (_:Below w.heap.size w V)=>rkey_any s V (by omega));have HB1:=hq (fun V (h:Below w.heap.size w V)=>zp5 s V (hE.grow h).tab (by omega));have HB2:=hq (fun V (_:Below w.heap.size w V)=>zG4 s V (by omega));have HS1:Hq (∀V,Below w.heap.size w V->Calls Tryz.prog 17 #[.string s] V fun e W'=>e= .returned (.agg #[.int .i64 rk,.string (st rt),.slice none 0 0,.slice none 0 0])/\Below V.heap.size V W'):=hq (fun V h=>by
  have:=zs0 s V (hE.grow h) (by omega);unfold zJ7 at this;rw[hrk]at this;exact this)
 have HS2:Hq (∀V,Below w.heap.size w V->Calls Tryz.prog 18 #[.string s] V fun e W'=>e= .returned (.agg #[.int .i64 rk,.string (st rt),.slice none 0 0,.slice none 0 0])/\Below V.heap.size V W'):=hq (fun V _=>by
  have:=zC s V (by omega);unfold zJ7 at this;rw[hrk]at this;exact this)
 have HE2:Hq (∀V,Calls Tryz.prog 11 #[.agg #[.int .i64 rk,.string (st rt),.slice none 0 0,.slice none 0 0],.agg #[.int .i64 rk,.string (st rt),.slice none 0 0,.slice none 0 0]] V (fun e W=>e= .returned (.bool true)/\Below V.heap.size V W)):=hq (fun V=>by
  rw[hrk]at hrng;have hr:=hrng.here;have ho:=leaf_ok rk rt V hr.hk hr.ht;have:=zH9 (zl8 rk rt) (zl8 rk rt) V ho ho;rw[zo5]at this;exact this.mono fun e W ⟨v,h1,h2,h3⟩=>⟨by rw[h1,h2.2 rfl],h3⟩)
 unfold zt9 at HK1 HK2;generalize zm9 true w=PP at *;generalize keyL s.data.toList=KL at *;obtain⟨kb,ke⟩:=KL;generalize zh9 s.data.toList=BL at *;generalize RdOf s.data.toList=RR at *;simp only at HK1 HK2;clear hE hm _hs hz hrk hrng hl h4;go_enter Tryz.func3,Tryz.ntmps3
 go_wp2_with fail
 refine(HSM.o w (Below.refl _ _)).mono ?_;rintro e w1 ⟨rfl,hb⟩;have HBw1:=hq hb;clear hb HSM;go_wp2_with fail
 refine(HR1.o w1 HBw1.o).mono ?_;rintro e w2 ⟨y,v,er,hr,rfl,hyo,hym,hb⟩;have HRR:=hq hr;have hyk:=HOK.o _ y v er _ hr hyo hym;have HSY:=hq (fun V (h:Below w2.heap.size w2 V)=>HSP.o w1.heap.size y V (hyo.grow h) (Nat.le_trans hb.size h.size));obtain⟨yk,yt,⟨yko,ykc,ykl⟩,yo,yc,yis⟩:=y;rw[Vt.v_mk']at HSY ⊢;go_upto_region 5 with fail
 have hb3:=za0 w2 (.cells #[.int .i64 yk,.string (st yt),.slice yko ykl.length ykc,.slice yo yis.length yc] 26);have HY3:=hq (Whole.made w2 26 #[.int .i64 yk,.string (st yt),.slice yko ykl.length ykc,.slice yo yis.length yc]);have HB3:=hq (za (za HBw1.o hb) hb3);have HS3:=hq hb3;have HYK:=hq (fun V (h:Below w2.heap.size w2 V)=>hyk.grow h);have HYM:=hq hym;have HSZ1:=hq (show w.heap.size<=w1.heap.size from HBw1.o.size);clear hb hb3 hyo hym hyk hr HR1 HSP;generalize (w2.alloc (.cells #[.int .i64 yk,.string (st yt),.slice yko ykl.length ykc,.slice yo yis.length yc] 26))=w3 at *;obtain⟨gy,HGY⟩: ∃g,Hq (w2.heap.size=g):=⟨_,hq rfl⟩;rw[HGY.o]at HY3;rw[HGY.o];go_wp2_with fail
 refine(HR2.o w3 HB3.o).mono ?_;rintro e w4 ⟨z,u,er2,hr,rfl,hzo,hzm,hb⟩;obtain⟨rfl,rfl⟩:=HONE.o v u er er2 HRR.o hr;have hzk:=HOK.o _ z v er _ hr hzo hzm;have HEY:=hq (fun V (h:Below w4.heap.size w4 V)=>HEQ.o _ z V (HYK.o V (za HS3.o (za hb h))) (hzk.grow h) (HYM.o.trans hzm.symm));obtain⟨zk,zt,⟨zko,zkc,zkl⟩,zo,zc,zis⟩:=z;rw[Vt.v_mk',Vt.v_mk']at HEY;rw[Vt.v_mk'];go_upto_region 6 with fail
 have hb5:=za0 w4 (.cells #[.int .i64 zk,.string (st zt),.slice zko zkl.length zkc,.slice zo zis.length zc] 26);have HZ5:=hq (Whole.made w4 26 #[.int .i64 zk,.string (st zt),.slice zko zkl.length zkc,.slice zo zis.length zc]);have HY5:=hq (HY3.o.grow (za hb hb5));have HS5:=hq (za HS3.o (za hb hb5));have HB5:=hq (za HB3.o (za hb hb5));have HEZ:=hq (HEY.o _ hb5);clear hb hb5 hzo hzm hzk hr HR2 HEQ HONE HOK HEY HRR HYK HYM HS3 HB3 HY3;generalize (w4.alloc (.cells #[.int .i64 zk,.string (st zt),.slice zko zkl.length zkc,.slice zo zis.length zc] 26))=w5 at *;generalize w4.heap.size=gz at *;obtain⟨c0,c1,c2,c3⟩:=za1 HY5.o;obtain⟨d0,d1,d2,d3⟩:=za1 HZ5.o;go_wp2_with fail
 refine HEZ.o.mono ?_;rintro e w6 ⟨rfl,hb⟩;have HY6:=hq (HY5.o.grow hb);have HS6:=hq (za HS5.o hb);have HB6:=hq (za HB5.o hb);clear hb c0 c1 c2 c3 d0 d1 d2 d3 HY5 HZ5 HEZ HS5 HB5;obtain⟨c0,c1,c2,c3⟩:=za1 HY6.o;go_wp2_with fail
 refine(HSY.o w6 HS6.o).mono ?_;rintro e w7 ⟨rfl,hs7⟩;have HB7:=hq (show Below w.heap.size w w7 from HB6.o.trans (hs7.below.mono HSZ1.o));clear c0 c1 c2 c3 HY6 HS6 HB6 hs7 HSY;go_wp2_with fail
 refine(HK1.o w7 HB7.o).mono ?_;rintro e w8 ⟨rfl,hb⟩;have HB8:=hq (za HB7.o hb);clear hb HB7 HK1;go_wp2_with fail
 refine(HK2.o w8 HB8.o).mono ?_;rintro e w9 ⟨rfl,hb⟩;have HB9:=hq (za HB8.o hb);clear hb HB8 HK2;have t2:(er==er)=true:=beq_self_eq_true _;have t3:((st kb).toList==(st kb).toList)=true:=beq_self_eq_true _;have t4:(ke==ke)=true:=beq_self_eq_true _;have t5:(BL==BL)=true:=beq_self_eq_true _;go_wp2_with fail
 refine(HB1.o w9 HB9.o).mono ?_;rintro e wa ⟨rfl,hb⟩;have HBa:=hq (za HB9.o hb);clear hb HB9 HB1;go_wp2_with fail
 refine(HB2.o wa HBa.o).mono ?_;rintro e wb ⟨rfl,hb⟩;have HBb:=hq (za HBa.o hb);clear hb HBa HB2;go_wp2_with fail
 refine(HS1.o wb HBb.o).mono ?_;rintro e wc ⟨rfl,hb⟩;have HBc:=hq (za HBb.o hb);clear hb HBb HS1;go_wp2_with fail
 refine(HS2.o wc HBc.o).mono ?_;rintro e wd ⟨rfl,hb⟩;have HBd:=hq (za HBc.o hb);clear hb HBc HS2;go_wp2_with fail
 refine(HE2.o wd).mono ?_;rintro e we ⟨rfl,hb⟩;have HV:=hq (HFI.o we (za HBd.o hb));clear hb HBd HE2 HFI;go_wp2_with fail
 first|exact HV.o|(go_ret;exact HV.o)
end Go.Proofs.YtkafjblfjdpdaaaGreatDoor
