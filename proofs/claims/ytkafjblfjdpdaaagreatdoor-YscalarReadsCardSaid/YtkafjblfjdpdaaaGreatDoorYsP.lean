/-
  WALK of layer 11: the small cases of the laws.
-/
import Derived.Test.YtkafjblfjdpdaaaGreatDoorYsO
import Derived.Test.YtkafjblfjdpdaaaGreatDoorPrP
set_option maxHeartbeats 32000000
set_option maxRecDepth 1000000
namespace Go.Proofs.YtkafjblfjdpdaaaGreatDoor
open Go.RowKit
abbrev yl1:Bs:=[49,46,48]
abbrev yl2:Bs:=[39,49,46,48,39]
abbrev yl3:Bs:=[91,49,44,32,50,93]
abbrev yn3:List JN:=[⟨5,0,6,0,0,[1,2],[(1,2),(3,5)]⟩,⟨3,1,2,0,0,[],[]⟩,⟨3,4,5,0,0,[],[]⟩]
abbrev yv3:Vl:= .mk 5 [] [] [.mk 3 [49] [] [],.mk 3 [50] [] []]
theorem yb1:zh9 yl1=true:=by kernel_rfl
theorem yr1:zc3 yl1= .mk 3 [49] [] []:=by kernel_rfl
theorem yq2:zj4 yl2=([49,46,48],0):=by kernel_rfl
theorem yj3:zc2 (st yl3)= .inr yn3:=by kernel_rfl
theorem yrv3:Rv (st yl3) yn3 32 0 yv3 3:=by
 have h1:Rv (st yl3) yn3 31 1 (.mk 3 [49] [] []) 1:=by
  have h:Rv (st yl3) yn3 31 1 (leafV (st yl3) ⟨3,1,2,0,0,[],[]⟩) 1:= .leaf rfl ⟨by decide,by decide,9,by kernel_rfl,rfl,by decide⟩ rfl;rwa [show leafV (st yl3) ⟨3,1,2,0,0,[],[]⟩= .mk 3 [49] [] [] by kernel_rfl]at h
 have h2:Rv (st yl3) yn3 31 2 (.mk 3 [50] [] []) 1:=by
  have h:Rv (st yl3) yn3 31 2 (leafV (st yl3) ⟨3,4,5,0,0,[],[]⟩) 1:= .leaf rfl ⟨by decide,by decide,9,by kernel_rfl,rfl,by decide⟩ rfl;rwa [show leafV (st yl3) ⟨3,4,5,0,0,[],[]⟩= .mk 3 [50] [] [] by kernel_rfl]at h
 refine .arr (x:=⟨5,0,6,0,0,[1,2],[(1,2),(3,5)]⟩) (vs:=[.mk 3 [49] [] [],.mk 3 [50] [] []]) (cs:=[1,1]) rfl rfl rfl rfl (fun i hi=> ?_) (fun i hi=> ?_)
 ·match i,hi with
  |0,_=>decide
  |1,_=>decide
  |(i+2),hi=>exact absurd hi (by show¬i+2<2;omega)
 ·match i,hi with
  |0,_=>exact h1
  |1,_=>exact h2
  |(i+2),hi=>exact absurd hi (by show¬i+2<2;omega)
theorem yrd1(u:Vl)(er:Int)(h:RdOf yl1 u er):u= .mk 3 [49] [] []/\er=0:=by
 unfold RdOf at h;simp only at h;rw[if_neg (by decide),if_neg (by decide),if_pos yb1,yr1]at h;exact h
theorem yrd2(u:Vl)(er:Int)(h:RdOf yl2 u er):u= .mk 4 [49,46,48] [] []/\er=0:=by
 unfold RdOf at h;simp only at h;rw[if_pos (by decide),yq2,if_pos rfl]at h;exact⟨h.2,h.1⟩
theorem yrd3(u:Vl)(er:Int)(h:RdOf yl3 u er):u=yv3/\er=0:=by
 unfold RdOf at h;simp only at h;rw[if_neg (by decide),if_pos (by decide),yj3]at h;exact⟨(h.2.one yrv3).1,h.1⟩
theorem zO6 {l:Bs} {v:Vl} (h: ∀u er,RdOf l u er->u=v/\er=0)(hr:v.All Vl.Rng)(hl:l.length<=1000)(W:World)(hE:Env W):
 Calls Tryz.prog 9 #[.string (st l)] W fun e W'=> ∃y:Vt,e= .returned (.tuple #[y.v,.int .i64 0])/\IsVR v y.v W'/\y.m=v/\Below W.heap.size W W':=by
 have:=zJ8 (st l) W hE (by rw[za8];omega);rw[zc7]at this;refine this.mono ?_;rintro e W' ⟨y,u,er,h1,rfl,h2,h3,h4⟩;obtain⟨rfl,rfl⟩:=h u er h1;exact⟨y,rfl,⟨y,rfl,h2.ok (by rw[h3];exact hr),h3⟩,h3,h4⟩
theorem zD9 {t:Bs} {r:Bs×Int} (h:zs1 (.mk 4 t [] [])=r)(ht:t.length<=1000)(W:World)(hE:Env W)(hm:mx W):
 Calls Tryz.prog 21 #[.agg #[.int .i64 4,.string (st t),.slice none 0 0,.slice none 0 0]] W (TextP r W):=by
 have:=ywrite_any (zl8 4 t) W hE hm (leaf4_pri (by omega) W);rwa [zP7,h]at this
theorem zR {t:Bs} {r:Bool} (h:zh9 t=r)(ht:t.length<=1000)(W:World)(hE:Env W):Calls Tryz.prog 15 #[.string (st t)] W (zm9 r W):=by
 have:=zp5 (st t) W hE.tab (by rw[za8];omega);rwa [zc7,h]at this
theorem yw1:zs1 (.mk 4 [49] [] [])=([39,49,39],0):=by kernel_rfl
theorem yw2:zs1 (.mk 4 [97,58,32,98] [] [])=([39,97,58,32,98,39],0):=by kernel_rfl
theorem yw3:zs1 (.mk 4 [10] [] [])=([34,92,110,34],0):=by kernel_rfl
theorem yk1:zs2 [49]=([49],0):=by kernel_rfl
theorem yba1:zh9 [45,49]=true:=by kernel_rfl
theorem yba2:zh9 [45,32,49]=false:=by kernel_rfl
theorem yba3:zh9 [97,58,98]=true:=by kernel_rfl
def RYK(va vb vc:Value)(g5:Nat)(i:Nat)(v:Value)(_ _:Nat)(_:World):Prop:=match i with
 |0=>v= .int .i64 0
 |3=>v=va
 |4=>v= .agg #[.int .i64 3,.string (st [49]),.slice none 0 0,.slice none 0 0]
 |8=>v= .int .i64 0
 |12=>v=vb
 |13=>v= .agg #[.int .i64 4,.string (st [49,46,48]),.slice none 0 0,.slice none 0 0]
 |17=>v= .int .i64 0
 |21=>v= .pointer (some ⟨g5,3,none⟩)
 |22=>v=vc
 |23=>v= .int .i64 2
 |27=>v= .int .i64 0
 |31=>v= .string (st [39,49,39])
 |35=>v= .int .i64 0
 |39=>v= .string (st [39,97,58,32,98,39])
 |43=>v= .int .i64 0
 |47=>v= .string (st [34,92,110,34])
 |54=>v= .bool false
 |61=>v= .int .i64 0
 |65=>v= .string (st [49])
 |_=>v= .bool true
theorem one_txtY:zk9 (ofM 1)=[49]:=by kernel_rfl
theorem small11_any(w:World)(hE:Env w)(hm:mx w):Calls Tryz.prog 8 #[] w (zm9 true w):=by
 have HN1:=hq (fun V (hV:Below w.heap.size w V)=>(show Calls Tryz.prog 30 #[.int .i64 1] V (zm4 3 [49] V) from by have:=vNum_any 1 V (hE.grow hV).its (by decide) (by decide);rwa [one_txtY]at this));have HR1:=hq (fun V (hV:Below w.heap.size w V)=>zO6 yrd1 (zF9 (by kernel_rfl)) (by decide) V (hE.grow hV));have HR2:=hq (fun V (hV:Below w.heap.size w V)=>zO6 yrd2 (zF9 (by kernel_rfl)) (by decide) V (hE.grow hV));have HR3:=hq (fun V (hV:Below w.heap.size w V)=>zO6 yrd3 (zF9 (by kernel_rfl)) (by decide) V (hE.grow hV));have HW1:=hq (fun V (hV:Below w.heap.size w V)=>zD9 yw1 (by decide) V (hE.grow hV) (zo4 hm hV));have HW2:=hq (fun V (hV:Below w.heap.size w V)=>zD9 yw2 (by decide) V (hE.grow hV) (zo4 hm hV));have HW3:=hq (fun V (hV:Below w.heap.size w V)=>zD9 yw3 (by decide) V (hE.grow hV) (zo4 hm hV));have HK1:=hq (fun V (hV:Below w.heap.size w V)=>(show Calls Tryz.prog 23 #[.string (st [49])] V (zt9 ([49],0) V) from by have:=ywkey_any (st [49]) V (hE.grow hV).tab (zo4 hm hV) (by decide);rwa [zc7,yk1]at this));have HB1:=hq (fun V (hV:Below w.heap.size w V)=>zR yba1 (by decide) V (hE.grow hV));have HB2:=hq (fun V (hV:Below w.heap.size w V)=>zR yba2 (by decide) V (hE.grow hV));have HB3:=hq (fun V (hV:Below w.heap.size w V)=>zR yba3 (by decide) V (hE.grow hV));have HFI:Hq (∀W',Below w.heap.size w W'->zm9 true w (.returned (.bool true)) W'):=hq (fun W' h=>⟨rfl,h⟩);generalize zm9 true w=PP at *;clear hE hm;go_enter Tryz.func8,Tryz.ntmps8
 go_wp2_with fail
 refine(HR1.o w (Below.refl _ _)).mono ?_;rintro e w1 ⟨y,rfl,hy1,_,hb1⟩;obtain⟨ak,at_,⟨ako,akc,akl⟩,ao,ac,ais⟩:=y;rw[Vt.v_mk']at hy1 ⊢;go_upto_region 2 with fail
 have HA2:=hq (hy1.growR (za0 w1 (.cells #[.int .i64 ak,.string (st at_),.slice ako akl.length akc,.slice ao ais.length ac] 26)));have HX2:=hq (za hb1 (za0 w1 (.cells #[.int .i64 ak,.string (st at_),.slice ako akl.length akc,.slice ao ais.length ac] 26)));have HC2:=hq (Whole.made w1 26 #[.int .i64 ak,.string (st at_),.slice ako akl.length akc,.slice ao ais.length ac]);clear hy1 hb1 HR1;generalize (w1.alloc (.cells #[.int .i64 ak,.string (st at_),.slice ako akl.length akc,.slice ao ais.length ac] 26))=w2 at *;generalize w1.heap.size=ga at *;go_wp2_with fail
 refine(HR2.o w2 HX2.o).mono ?_;rintro e w3 ⟨y,rfl,hy3,_,hb3⟩;obtain⟨bk,bt,⟨bko,bkc,bkl⟩,bo,bc,bis⟩:=y;rw[Vt.v_mk']at hy3 ⊢;go_upto_region 3 with fail
 have hb4:=za0 w3 (.cells #[.int .i64 bk,.string (st bt),.slice bko bkl.length bkc,.slice bo bis.length bc] 26);have HY4:=hq (hy3.growR hb4);have HA4:=hq ((HA2.o.growR hb3).growR hb4);have HC4:=hq ((HC2.o.grow hb3).grow hb4);have HX4:=hq (za (za HX2.o hb3) hb4);have HD4:=hq (Whole.made w3 26 #[.int .i64 bk,.string (st bt),.slice bko bkl.length bkc,.slice bo bis.length bc]);clear hy3 hb3 hb4 HR2 HA2 HC2 HX2;generalize (w3.alloc (.cells #[.int .i64 bk,.string (st bt),.slice bko bkl.length bkc,.slice bo bis.length bc] 26))=w4 at *;generalize w3.heap.size=gb at *;go_wp2_with fail
 refine(HR3.o w4 HX4.o).mono ?_;rintro e w5 ⟨y,rfl,_,hm5,hb5⟩;obtain⟨ck,ct,⟨cko,ckc,ckl⟩,co,cc,cis⟩:=y;have hlen:cis.length=2:=by
  rw[Vt.m_mk]at hm5;injection hm5 with _ _ _ h4
  have:=congrArg List.length h4;simpa using this
 have HLN:=hq hlen;rw[Vt.v_mk'];clear hm5 hlen;go_upto_region 4 with fail
 have hb6:=za0 w5 (.cells #[.int .i64 ck,.string (st ct),.slice cko ckl.length ckc,.slice co cis.length cc] 26);have HY6:=hq ((HY4.o.growR hb5).growR hb6);have HA6:=hq ((HA4.o.growR hb5).growR hb6);have HC6:=hq ((HC4.o.grow hb5).grow hb6);have HD6:=hq ((HD4.o.grow hb5).grow hb6);have HE6:=hq (Whole.made w5 26 #[.int .i64 ck,.string (st ct),.slice cko ckl.length ckc,.slice co cis.length cc]);have HX6:=hq (za (za HX4.o hb5) hb6);clear hb5 hb6 HR3 HY4 HA4 HC4 HD4 HX4;generalize (w5.alloc (.cells #[.int .i64 ck,.string (st ct),.slice cko ckl.length ckc,.slice co cis.length cc] 26))=w6 at *;generalize w5.heap.size=gc at *;go_wp2_with fail
 refine(zz7 [49] w6).mono ?_;rintro e w7 ⟨rfl,hb7⟩;have HX7:=hq (za HX6.o hb7);have HY7:=hq (HY6.o.growR hb7);have HA7:=hq (HA6.o.growR hb7);have HC7:=hq (HC6.o.grow hb7);have HD7:=hq (HD6.o.grow hb7);have HE7:=hq (HE6.o.grow hb7);clear hb7 HX6 HY6 HA6 HC6 HD6 HE6;rw[zo5];go_wp2_with fail
 refine(HW1.o w7 HX7.o).mono ?_;rintro e w8 ⟨rfl,hb8⟩;have HX8:=hq (za HX7.o hb8);have HY8:=hq (HY7.o.growR hb8);have HA8:=hq (HA7.o.growR hb8);have HC8:=hq (HC7.o.grow hb8);have HD8:=hq (HD7.o.grow hb8);have HE8:=hq (HE7.o.grow hb8);clear hb8 HX7 HY7 HA7 HC7 HD7 HE7 HW1;go_wp2_with fail
 refine(zz7 [97,58,32,98] w8).mono ?_;rintro e w9 ⟨rfl,hb9⟩;have HX9:=hq (za HX8.o hb9);have HY9:=hq (HY8.o.growR hb9);have HA9:=hq (HA8.o.growR hb9);have HC9:=hq (HC8.o.grow hb9);have HD9:=hq (HD8.o.grow hb9);have HE9:=hq (HE8.o.grow hb9);clear hb9 HX8 HY8 HA8 HC8 HD8 HE8;rw[zo5];go_wp2_with fail
 refine(HW2.o w9 HX9.o).mono ?_;rintro e w10 ⟨rfl,hb10⟩;have HX10:=hq (za HX9.o hb10);have HY10:=hq (HY9.o.growR hb10);have HA10:=hq (HA9.o.growR hb10);have HC10:=hq (HC9.o.grow hb10);have HD10:=hq (HD9.o.grow hb10);have HE10:=hq (HE9.o.grow hb10);clear hb10 HX9 HY9 HA9 HC9 HD9 HE9 HW2;go_wp2_with fail
 refine(zz7 [10] w10).mono ?_;rintro e w11 ⟨rfl,hb11⟩;have HX11:=hq (za HX10.o hb11);have HY11:=hq (HY10.o.growR hb11);have HA11:=hq (HA10.o.growR hb11);have HC11:=hq (HC10.o.grow hb11);have HD11:=hq (HD10.o.grow hb11);have HE11:=hq (HE10.o.grow hb11);clear hb11 HX10 HY10 HA10 HC10 HD10 HE10;rw[zo5];go_wp2_with fail
 refine(HW3.o w11 HX11.o).mono ?_;rintro e w12 ⟨rfl,hb12⟩;have HX12:=hq (za HX11.o hb12);have HY12:=hq (HY11.o.growR hb12);have HA12:=hq (HA11.o.growR hb12);have HC12:=hq (HC11.o.grow hb12);have HD12:=hq (HD11.o.grow hb12);have HE12:=hq (HE11.o.grow hb12);clear hb12 HX11 HY11 HA11 HC11 HD11 HE11 HW3;go_wp2_with fail
 refine(HK1.o w12 HX12.o).mono ?_;rintro e w13 ⟨rfl,hb13⟩;have HX:=hq (za HX12.o hb13);have HY:=hq (HY12.o.growR hb13);have HA:=hq (HA12.o.growR hb13);have HC:=hq (HC12.o.grow hb13);have HD:=hq (HD12.o.grow hb13);have HE:=hq (HE12.o.grow hb13);clear hb13 HX12 HY12 HA12 HC12 HD12 HE12 HK1;go_upto_region 8 with fail
 have HEQ1:=hq (fun V (h:Below w13.heap.size w13 V)=>zI (r:=true) (HA.o.growR h) (show IsVR (.mk 3 [49] [] []) (.agg #[.int .i64 3,.string (st [49]),.slice none 0 0,.slice none 0 0]) V from⟨zl8 3 [49],rfl,leaf_ok 3 [49] V (by decide) (by show 1<=maxLen;decide),zP7 _ _⟩) ⟨fun _=>rfl,fun _=>rfl⟩);have HEQ2:=hq (fun V (h:Below w13.heap.size w13 V)=>zI (r:=true) (HY.o.growR h) (show IsVR (.mk 4 [49,46,48] [] []) (.agg #[.int .i64 4,.string (st [49,46,48]),.slice none 0 0,.slice none 0 0]) V from⟨zl8 4 [49,46,48],rfl,leaf_ok 4 [49,46,48] V (by decide) (by show 3<=maxLen;decide),zP7 _ _⟩) ⟨fun _=>rfl,fun _=>rfl⟩);clear HA HY;generalize hva:Value.agg #[.int .i64 ak,.string (st at_),.slice ako akl.length akc,.slice ao ais.length ac]=va at *;generalize hvb:Value.agg #[.int .i64 bk,.string (st bt),.slice bko bkl.length bkc,.slice bo bis.length bc]=vb at *;generalize hvc:Value.slice co cis.length cc=vc at *;refine zB (by kernel_rfl) [(0,46),(1,47),(2,48),(3,49),(4,50),(5,51),(6,52),(7,53),(8,54),(9,55),(10,56),(11,57),(12,58),(13,59),(14,60),(15,61),(16,62),(17,63),(18,64),(19,65),(20,66),(21,67),(22,68),(23,69),(24,70),(25,71),(26,72),(27,73),(28,74),(29,75),(30,76),(31,77),(32,78),(33,79),(34,80),(35,81),(36,82),(37,83),(38,84),(39,85),(40,86),(41,87),(42,88),(43,89),(44,90),(45,91),(46,92),(47,93),(48,94),(49,95),(50,96),(51,97),(52,98),(53,99),(54,100),(55,101),(56,102),(57,103),(58,104),(59,105),(60,106),(61,107),(62,108),(63,109),(64,110),(65,111),(66,112),(67,113),(68,0)] [[0],[1,0],[2,1,0],[3,2,1,0],[4,2,1,0],[5,3,2,1,0,4],[6,2,1,0,5,3,4],[7,6,2,1,0,5,3,4],[8,7,6,2,1,0,5,3,4],[9,8,7,6,2,1,0,5,3,4],[10,7,6,2,1,0,5,3,4,9,8],[11,10,7,6,2,1,0,5,3,4,9,8],[12,11,10,7,6,2,1,0,5,3,4,9,8],[13,11,10,7,6,2,1,0,5,3,4,9,8],[14,12,11,10,7,6,2,1,0,5,3,4,9,8,13],[15,11,10,7,6,2,1,0,5,3,4,9,8,14,12,13],[16,15,11,10,7,6,2,1,0,5,3,4,9,8,14,12,13],[17,16,15,11,10,7,6,2,1,0,5,3,4,9,8,14,12,13],[18,17,16,15,11,10,7,6,2,1,0,5,3,4,9,8,14,12,13],[19,16,15,11,10,7,6,2,1,0,5,3,4,9,8,14,12,13,18,17],[20,19,16,15,11,10,7,6,2,1,0,5,3,4,9,8,14,12,13,18,17],[21,20,19,16,15,11,10,7,6,2,1,0,5,3,4,9,8,14,12,13,18,17],[22,21,20,19,16,15,11,10,7,6,2,1,0,5,3,4,9,8,14,12,13,18,17],[23,22,21,20,19,16,15,11,10,7,6,2,1,0,5,3,4,9,8,14,12,13,18,17],[24,23,22,21,20,19,16,15,11,10,7,6,2,1,0,5,3,4,9,8,14,12,13,18,17],[25,20,19,16,15,11,10,7,6,2,1,0,5,3,4,9,8,14,12,13,18,17,24,23,22,21],[26,25,20,19,16,15,11,10,7,6,2,1,0,5,3,4,9,8,14,12,13,18,17,24,23,22,21],[27,26,25,20,19,16,15,11,10,7,6,2,1,0,5,3,4,9,8,14,12,13,18,17,24,23,22,21],[28,27,26,25,20,19,16,15,11,10,7,6,2,1,0,5,3,4,9,8,14,12,13,18,17,24,23,22,21],[29,26,25,20,19,16,15,11,10,7,6,2,1,0,5,3,4,9,8,14,12,13,18,17,24,23,22,21,28,27],[30,29,26,25,20,19,16,15,11,10,7,6,2,1,0,5,3,4,9,8,14,12,13,18,17,24,23,22,21,28,27],[31,30,29,26,25,20,19,16,15,11,10,7,6,2,1,0,5,3,4,9,8,14,12,13,18,17,24,23,22,21,28,27],[32,31,30,29,26,25,20,19,16,15,11,10,7,6,2,1,0,5,3,4,9,8,14,12,13,18,17,24,23,22,21,28,27],[33,30,29,26,25,20,19,16,15,11,10,7,6,2,1,0,5,3,4,9,8,14,12,13,18,17,24,23,22,21,28,27,32,31],[34,33,30,29,26,25,20,19,16,15,11,10,7,6,2,1,0,5,3,4,9,8,14,12,13,18,17,24,23,22,21,28,27,32,31],[35,34,33,30,29,26,25,20,19,16,15,11,10,7,6,2,1,0,5,3,4,9,8,14,12,13,18,17,24,23,22,21,28,27,32,31],[36,35,34,33,30,29,26,25,20,19,16,15,11,10,7,6,2,1,0,5,3,4,9,8,14,12,13,18,17,24,23,22,21,28,27,32,31],[37,34,33,30,29,26,25,20,19,16,15,11,10,7,6,2,1,0,5,3,4,9,8,14,12,13,18,17,24,23,22,21,28,27,32,31,36,35],[38,37,34,33,30,29,26,25,20,19,16,15,11,10,7,6,2,1,0,5,3,4,9,8,14,12,13,18,17,24,23,22,21,28,27,32,31,36,35],[39,38,37,34,33,30,29,26,25,20,19,16,15,11,10,7,6,2,1,0,5,3,4,9,8,14,12,13,18,17,24,23,22,21,28,27,32,31,36,35],[40,39,38,37,34,33,30,29,26,25,20,19,16,15,11,10,7,6,2,1,0,5,3,4,9,8,14,12,13,18,17,24,23,22,21,28,27,32,31,36,35],[41,38,37,34,33,30,29,26,25,20,19,16,15,11,10,7,6,2,1,0,5,3,4,9,8,14,12,13,18,17,24,23,22,21,28,27,32,31,36,35,40,39],[42,41,38,37,34,33,30,29,26,25,20,19,16,15,11,10,7,6,2,1,0,5,3,4,9,8,14,12,13,18,17,24,23,22,21,28,27,32,31,36,35,40,39],[43,42,41,38,37,34,33,30,29,26,25,20,19,16,15,11,10,7,6,2,1,0,5,3,4,9,8,14,12,13,18,17,24,23,22,21,28,27,32,31,36,35,40,39],[44,43,42,41,38,37,34,33,30,29,26,25,20,19,16,15,11,10,7,6,2,1,0,5,3,4,9,8,14,12,13,18,17,24,23,22,21,28,27,32,31,36,35,40,39],[45,42,41,38,37,34,33,30,29,26,25,20,19,16,15,11,10,7,6,2,1,0,5,3,4,9,8,14,12,13,18,17,24,23,22,21,28,27,32,31,36,35,40,39,44,43],[46,45,42,41,38,37,34,33,30,29,26,25,20,19,16,15,11,10,7,6,2,1,0,5,3,4,9,8,14,12,13,18,17,24,23,22,21,28,27,32,31,36,35,40,39,44,43],[47,46,45,42,41,38,37,34,33,30,29,26,25,20,19,16,15,11,10,7,6,2,1,0,5,3,4,9,8,14,12,13,18,17,24,23,22,21,28,27,32,31,36,35,40,39,44,43],[48,47,46,45,42,41,38,37,34,33,30,29,26,25,20,19,16,15,11,10,7,6,2,1,0,5,3,4,9,8,14,12,13,18,17,24,23,22,21,28,27,32,31,36,35,40,39,44,43],[49,46,45,42,41,38,37,34,33,30,29,26,25,20,19,16,15,11,10,7,6,2,1,0,5,3,4,9,8,14,12,13,18,17,24,23,22,21,28,27,32,31,36,35,40,39,44,43,48,47],[50,49,46,45,42,41,38,37,34,33,30,29,26,25,20,19,16,15,11,10,7,6,2,1,0,5,3,4,9,8,14,12,13,18,17,24,23,22,21,28,27,32,31,36,35,40,39,44,43,48,47],[51,50,49,46,45,42,41,38,37,34,33,30,29,26,25,20,19,16,15,11,10,7,6,2,1,0,5,3,4,9,8,14,12,13,18,17,24,23,22,21,28,27,32,31,36,35,40,39,44,43,48,47],[52,50,49,46,45,42,41,38,37,34,33,30,29,26,25,20,19,16,15,11,10,7,6,2,1,0,5,3,4,9,8,14,12,13,18,17,24,23,22,21,28,27,32,31,36,35,40,39,44,43,48,47,51],[53,52,50,49,46,45,42,41,38,37,34,33,30,29,26,25,20,19,16,15,11,10,7,6,2,1,0,5,3,4,9,8,14,12,13,18,17,24,23,22,21,28,27,32,31,36,35,40,39,44,43,48,47,51],[54,53,52,50,49,46,45,42,41,38,37,34,33,30,29,26,25,20,19,16,15,11,10,7,6,2,1,0,5,3,4,9,8,14,12,13,18,17,24,23,22,21,28,27,32,31,36,35,40,39,44,43,48,47,51],[55,54,53,52,50,49,46,45,42,41,38,37,34,33,30,29,26,25,20,19,16,15,11,10,7,6,2,1,0,5,3,4,9,8,14,12,13,18,17,24,23,22,21,28,27,32,31,36,35,40,39,44,43,48,47,51],[56,53,52,50,49,46,45,42,41,38,37,34,33,30,29,26,25,20,19,16,15,11,10,7,6,2,1,0,5,3,4,9,8,14,12,13,18,17,24,23,22,21,28,27,32,31,36,35,40,39,44,43,48,47,51,55,54],[57,56,53,52,50,49,46,45,42,41,38,37,34,33,30,29,26,25,20,19,16,15,11,10,7,6,2,1,0,5,3,4,9,8,14,12,13,18,17,24,23,22,21,28,27,32,31,36,35,40,39,44,43,48,47,51,55,54],[58,57,56,53,52,50,49,46,45,42,41,38,37,34,33,30,29,26,25,20,19,16,15,11,10,7,6,2,1,0,5,3,4,9,8,14,12,13,18,17,24,23,22,21,28,27,32,31,36,35,40,39,44,43,48,47,51,55,54],[59,57,56,53,52,50,49,46,45,42,41,38,37,34,33,30,29,26,25,20,19,16,15,11,10,7,6,2,1,0,5,3,4,9,8,14,12,13,18,17,24,23,22,21,28,27,32,31,36,35,40,39,44,43,48,47,51,55,54,58],[60,59,57,56,53,52,50,49,46,45,42,41,38,37,34,33,30,29,26,25,20,19,16,15,11,10,7,6,2,1,0,5,3,4,9,8,14,12,13,18,17,24,23,22,21,28,27,32,31,36,35,40,39,44,43,48,47,51,55,54,58],[61,60,59,57,56,53,52,50,49,46,45,42,41,38,37,34,33,30,29,26,25,20,19,16,15,11,10,7,6,2,1,0,5,3,4,9,8,14,12,13,18,17,24,23,22,21,28,27,32,31,36,35,40,39,44,43,48,47,51,55,54,58],[62,61,60,59,57,56,53,52,50,49,46,45,42,41,38,37,34,33,30,29,26,25,20,19,16,15,11,10,7,6,2,1,0,5,3,4,9,8,14,12,13,18,17,24,23,22,21,28,27,32,31,36,35,40,39,44,43,48,47,51,55,54,58],[63,60,59,57,56,53,52,50,49,46,45,42,41,38,37,34,33,30,29,26,25,20,19,16,15,11,10,7,6,2,1,0,5,3,4,9,8,14,12,13,18,17,24,23,22,21,28,27,32,31,36,35,40,39,44,43,48,47,51,55,54,58,62,61],[64,63,60,59,57,56,53,52,50,49,46,45,42,41,38,37,34,33,30,29,26,25,20,19,16,15,11,10,7,6,2,1,0,5,3,4,9,8,14,12,13,18,17,24,23,22,21,28,27,32,31,36,35,40,39,44,43,48,47,51,55,54,58,62,61],[65,64,63,60,59,57,56,53,52,50,49,46,45,42,41,38,37,34,33,30,29,26,25,20,19,16,15,11,10,7,6,2,1,0,5,3,4,9,8,14,12,13,18,17,24,23,22,21,28,27,32,31,36,35,40,39,44,43,48,47,51,55,54,58,62,61],[66,65,64,63,60,59,57,56,53,52,50,49,46,45,42,41,38,37,34,33,30,29,26,25,20,19,16,15,11,10,7,6,2,1,0,5,3,4,9,8,14,12,13,18,17,24,23,22,21,28,27,32,31,36,35,40,39,44,43,48,47,51,55,54,58,62,61],[67,64,63,60,59,57,56,53,52,50,49,46,45,42,41,38,37,34,33,30,29,26,25,20,19,16,15,11,10,7,6,2,1,0,5,3,4,9,8,14,12,13,18,17,24,23,22,21,28,27,32,31,36,35,40,39,44,43,48,47,51,55,54,58,62,61,66,65],[68,67,64,63,60,59,57,56,53,52,50,49,46,45,42,41,38,37,34,33,30,29,26,25,20,19,16,15,11,10,7,6,2,1,0,5,3,4,9,8,14,12,13,18,17,24,23,22,21,28,27,32,31,36,35,40,39,44,43,48,47,51,55,54,58,62,61,66,65]] [] [] (RYK va vb vc gc) ?A ?hA (by kernel_rfl) ?hs ?he
 case hA=>
  intro f;simp only[putS];go_simp
  rfl
 case hs=>
  refine Steps.cons rfl ?_ (Steps.cons rfl ?_ (Steps.cons rfl ?_ (Steps.cons rfl ?_ (Steps.cons rfl ?_ (Steps.cons rfl ?_ (Steps.cons rfl ?_ (Steps.cons rfl ?_ (Steps.cons rfl ?_ (Steps.cons rfl ?_ (Steps.cons rfl ?_ (Steps.cons rfl ?_ (Steps.cons rfl ?_ (Steps.cons rfl ?_ (Steps.cons rfl ?_ (Steps.cons rfl ?_ (Steps.cons rfl ?_ (Steps.cons rfl ?_ (Steps.cons rfl ?_ (Steps.cons rfl ?_ (Steps.cons rfl ?_ (Steps.cons rfl ?_ (Steps.cons rfl ?_ (Steps.cons rfl ?_ (Steps.cons rfl ?_ (Steps.cons rfl ?_ (Steps.cons rfl ?_ (Steps.cons rfl ?_ (Steps.cons rfl ?_ (Steps.cons rfl ?_ (Steps.cons rfl ?_ (Steps.cons rfl ?_ (Steps.cons rfl ?_ (Steps.cons rfl ?_ (Steps.cons rfl ?_ (Steps.cons rfl ?_ (Steps.cons rfl ?_ (Steps.cons rfl ?_ (Steps.cons rfl ?_ (Steps.cons rfl ?_ (Steps.cons rfl ?_ (Steps.cons rfl ?_ (Steps.cons rfl ?_ (Steps.cons rfl ?_ (Steps.cons rfl ?_ (Steps.cons rfl ?_ (Steps.cons rfl ?_ (Steps.cons rfl ?_ (Steps.cons rfl ?_ (Steps.cons rfl ?_ (Steps.cons rfl ?_ (Steps.cons rfl ?_ (Steps.cons rfl ?_ (Steps.cons rfl ?_ (Steps.cons rfl ?_ (Steps.cons rfl ?_ (Steps.cons rfl ?_ (Steps.cons rfl ?_ (Steps.cons rfl ?_ (Steps.cons rfl ?_ (Steps.cons rfl ?_ (Steps.cons rfl ?_ (Steps.cons rfl ?_ (Steps.cons rfl ?_ (Steps.cons rfl ?_ (Steps.cons rfl ?_ (Steps.cons rfl ?_ (Steps.cons rfl ?_ (Steps.cons rfl ?_ Steps.nil))))))))))))))))))))))))))))))))))))))))))))))))))))))))))))))))))))
  ·intro f lo hi W2 hb hd K hK;rw[if_pos (by rfl)];go_simp
   exact hK _ _ (Below.refl _ _) (fun V _ _ _ _=>rfl)
  ·intro f lo hi W2 hb hd K hK;have e0:f 0=_:=(hd 0 (by decide) (by decide));clear hd
   try dsimp only at hK
   generalize f 0=x0 at e0 hK ⊢;subst e0;rw[if_pos (by rfl)];go_simp
   exact hK _ _ (Below.refl _ _) (fun V _ _ _ _=>rfl)
  ·intro f lo hi W2 hb hd K hK;have e1:f 1=_:=(hd 1 (by decide) (by decide));clear hd
   try dsimp only at hK
   generalize f 1=x1 at e1 hK ⊢;subst e1;rw[if_pos (by rfl)];go_simp
   exact hK _ _ (Below.refl _ _) (fun V _ _ _ _=>rfl)
  ·intro f lo hi W2 hb hd K hK;have e2:f 2=_:=(hd 2 (by decide) (by decide));clear hd
   try dsimp only at hK
   generalize f 2=x2 at e2 hK ⊢;subst e2;rw[if_pos (by rfl)];obtain⟨y0,y1,y2,y3⟩:=za1 (HC.o.grow hb);rw[←hva];go_simp
   exact hK _ _ (Below.refl _ _) (fun V _ _ _ _=>rfl)
  ·intro f lo hi W2 hb hd K hK;have e2:f 2=_:=(hd 2 (by decide) (by decide));clear hd
   try dsimp only at hK
   generalize f 2=x2 at e2 hK ⊢;subst e2;rw[if_pos (by rfl)];go_simp
   refine(HN1.o W2 (za HX.o hb)).mono ?_;rintro e w2 ⟨rfl,hb2⟩;exact hK _ _ hb2 (fun V _ _ _ _=>rfl)
  ·intro f lo hi W2 hb hd K hK;have e3:f 3=_:=(hd 3 (by decide) (by decide));have e4:f 4=_:=(hd 4 (by decide) (by decide));have e2:f 2=_:=(hd 2 (by decide) (by decide));clear hd
   try dsimp only at hK
   generalize f 3=x3 at e3 hK ⊢;generalize f 4=x4 at e4 hK ⊢;generalize f 2=x2 at e2 hK ⊢;subst e3;subst e4;subst e2;rw[if_pos (by rfl)];go_simp
   refine(HEQ1.o W2 hb).mono ?_;rintro e w2 ⟨rfl,hb2⟩;exact hK _ _ hb2 (fun V _ _ _ _=>rfl)
  ·intro f lo hi W2 hb hd K hK;have e2:f 2=_:=(hd 2 (by decide) (by decide));have e5:f 5=_:=(hd 5 (by decide) (by decide));clear hd
   try dsimp only at hK
   generalize f 2=x2 at e2 hK ⊢;generalize f 5=x5 at e5 hK ⊢;subst e2;subst e5;rw[if_pos (by rfl)];go_simp
   exact hK _ _ (Below.refl _ _) (fun V _ _ _ _=>rfl)
  ·intro f lo hi W2 hb hd K hK;have e6:f 6=_:=(hd 6 (by decide) (by decide));clear hd
   try dsimp only at hK
   generalize f 6=x6 at e6 hK ⊢;subst e6;rw[if_pos (by rfl)];go_simp
   exact hK _ _ (Below.refl _ _) (fun V _ _ _ _=>rfl)
  ·intro f lo hi W2 hb hd K hK;have e7:f 7=_:=(hd 7 (by decide) (by decide));clear hd
   try dsimp only at hK
   generalize f 7=x7 at e7 hK ⊢;subst e7;rw[if_pos (by rfl)];go_simp
   exact hK _ _ (Below.refl _ _) (fun V _ _ _ _=>rfl)
  ·intro f lo hi W2 hb hd K hK;have e8:f 8=_:=(hd 8 (by decide) (by decide));have e7:f 7=_:=(hd 7 (by decide) (by decide));clear hd
   try dsimp only at hK
   generalize f 8=x8 at e8 hK ⊢;generalize f 7=x7 at e7 hK ⊢;subst e8;subst e7;rw[if_pos (by rfl)];go_simp
   exact hK _ _ (Below.refl _ _) (fun V _ _ _ _=>rfl)
  ·intro f lo hi W2 hb hd K hK;have e7:f 7=_:=(hd 7 (by decide) (by decide));have e9:f 9=_:=(hd 9 (by decide) (by decide));clear hd
   try dsimp only at hK
   generalize f 7=x7 at e7 hK ⊢;generalize f 9=x9 at e9 hK ⊢;subst e7;subst e9;rw[if_pos (by rfl)];go_simp
   exact hK _ _ (Below.refl _ _) (fun V _ _ _ _=>rfl)
  ·intro f lo hi W2 hb hd K hK;have e10:f 10=_:=(hd 10 (by decide) (by decide));clear hd
   try dsimp only at hK
   generalize f 10=x10 at e10 hK ⊢;subst e10;rw[if_pos (by rfl)];go_simp
   exact hK _ _ (Below.refl _ _) (fun V _ _ _ _=>rfl)
  ·intro f lo hi W2 hb hd K hK;have e11:f 11=_:=(hd 11 (by decide) (by decide));clear hd
   try dsimp only at hK
   generalize f 11=x11 at e11 hK ⊢;subst e11;rw[if_pos (by rfl)];obtain⟨y0,y1,y2,y3⟩:=za1 (HD.o.grow hb);rw[←hvb];go_simp
   exact hK _ _ (Below.refl _ _) (fun V _ _ _ _=>rfl)
  ·intro f lo hi W2 hb hd K hK;have e11:f 11=_:=(hd 11 (by decide) (by decide));clear hd
   try dsimp only at hK
   generalize f 11=x11 at e11 hK ⊢;subst e11;rw[if_pos (by rfl)];go_simp
   refine(zz7 [49,46,48] W2).mono ?_;rintro e w2 ⟨rfl,hb2⟩;exact hK _ _ hb2 (fun V _ _ _ _=>rfl)
  ·intro f lo hi W2 hb hd K hK;have e12:f 12=_:=(hd 12 (by decide) (by decide));have e13:f 13=_:=(hd 13 (by decide) (by decide));have e11:f 11=_:=(hd 11 (by decide) (by decide));clear hd
   try dsimp only at hK
   generalize f 12=x12 at e12 hK ⊢;generalize f 13=x13 at e13 hK ⊢;generalize f 11=x11 at e11 hK ⊢;subst e12;subst e13;subst e11;rw[if_pos (by rfl)];go_simp
   refine(HEQ2.o W2 hb).mono ?_;rintro e w2 ⟨rfl,hb2⟩;exact hK _ _ hb2 (fun V _ _ _ _=>rfl)
  ·intro f lo hi W2 hb hd K hK;have e11:f 11=_:=(hd 11 (by decide) (by decide));have e14:f 14=_:=(hd 14 (by decide) (by decide));clear hd
   try dsimp only at hK
   generalize f 11=x11 at e11 hK ⊢;generalize f 14=x14 at e14 hK ⊢;subst e11;subst e14;rw[if_pos (by rfl)];go_simp
   exact hK _ _ (Below.refl _ _) (fun V _ _ _ _=>rfl)
  ·intro f lo hi W2 hb hd K hK;have e15:f 15=_:=(hd 15 (by decide) (by decide));clear hd
   try dsimp only at hK
   generalize f 15=x15 at e15 hK ⊢;subst e15;rw[if_pos (by rfl)];go_simp
   exact hK _ _ (Below.refl _ _) (fun V _ _ _ _=>rfl)
  ·intro f lo hi W2 hb hd K hK;have e16:f 16=_:=(hd 16 (by decide) (by decide));clear hd
   try dsimp only at hK
   generalize f 16=x16 at e16 hK ⊢;subst e16;rw[if_pos (by rfl)];go_simp
   exact hK _ _ (Below.refl _ _) (fun V _ _ _ _=>rfl)
  ·intro f lo hi W2 hb hd K hK;have e17:f 17=_:=(hd 17 (by decide) (by decide));have e16:f 16=_:=(hd 16 (by decide) (by decide));clear hd
   try dsimp only at hK
   generalize f 17=x17 at e17 hK ⊢;generalize f 16=x16 at e16 hK ⊢;subst e17;subst e16;rw[if_pos (by rfl)];go_simp
   exact hK _ _ (Below.refl _ _) (fun V _ _ _ _=>rfl)
  ·intro f lo hi W2 hb hd K hK;have e16:f 16=_:=(hd 16 (by decide) (by decide));have e18:f 18=_:=(hd 18 (by decide) (by decide));clear hd
   try dsimp only at hK
   generalize f 16=x16 at e16 hK ⊢;generalize f 18=x18 at e18 hK ⊢;subst e16;subst e18;rw[if_pos (by rfl)];go_simp
   exact hK _ _ (Below.refl _ _) (fun V _ _ _ _=>rfl)
  ·intro f lo hi W2 hb hd K hK;have e19:f 19=_:=(hd 19 (by decide) (by decide));clear hd
   try dsimp only at hK
   generalize f 19=x19 at e19 hK ⊢;subst e19;rw[if_pos (by rfl)];go_simp
   exact hK _ _ (Below.refl _ _) (fun V _ _ _ _=>rfl)
  ·intro f lo hi W2 hb hd K hK;have e20:f 20=_:=(hd 20 (by decide) (by decide));clear hd
   try dsimp only at hK
   generalize f 20=x20 at e20 hK ⊢;subst e20;rw[if_pos (by rfl)];go_simp
   exact hK _ _ (Below.refl _ _) (fun V _ _ _ _=>rfl)
  ·intro f lo hi W2 hb hd K hK;have e21:f 21=_:=(hd 21 (by decide) (by decide));have e20:f 20=_:=(hd 20 (by decide) (by decide));clear hd
   try dsimp only at hK
   generalize f 21=x21 at e21 hK ⊢;generalize f 20=x20 at e20 hK ⊢;subst e21;subst e20;rw[if_pos (by rfl)];obtain⟨y0,y1,y2,y3⟩:=za1 (HE.o.grow hb);rw[←hvc];go_simp
   exact hK _ _ (Below.refl _ _) (fun V _ _ _ _=>rfl)
  ·intro f lo hi W2 hb hd K hK;have e22:f 22=_:=(hd 22 (by decide) (by decide));have e20:f 20=_:=(hd 20 (by decide) (by decide));clear hd
   try dsimp only at hK
   generalize f 22=x22 at e22 hK ⊢;generalize f 20=x20 at e20 hK ⊢;subst e22;subst e20;rw[if_pos (by rfl)];rw[←hvc,HLN.o]at hK ⊢;go_simp
   exact hK _ _ (Below.refl _ _) (fun V _ _ _ _=>rfl)
  ·intro f lo hi W2 hb hd K hK;have e23:f 23=_:=(hd 23 (by decide) (by decide));have e20:f 20=_:=(hd 20 (by decide) (by decide));clear hd
   try dsimp only at hK
   generalize f 23=x23 at e23 hK ⊢;generalize f 20=x20 at e20 hK ⊢;subst e23;subst e20;rw[if_pos (by rfl)];go_simp
   exact hK _ _ (Below.refl _ _) (fun V _ _ _ _=>rfl)
  ·intro f lo hi W2 hb hd K hK;have e20:f 20=_:=(hd 20 (by decide) (by decide));have e24:f 24=_:=(hd 24 (by decide) (by decide));clear hd
   try dsimp only at hK
   generalize f 20=x20 at e20 hK ⊢;generalize f 24=x24 at e24 hK ⊢;subst e20;subst e24;rw[if_pos (by rfl)];go_simp
   exact hK _ _ (Below.refl _ _) (fun V _ _ _ _=>rfl)
  ·intro f lo hi W2 hb hd K hK;have e25:f 25=_:=(hd 25 (by decide) (by decide));clear hd
   try dsimp only at hK
   generalize f 25=x25 at e25 hK ⊢;subst e25;rw[if_pos (by rfl)];go_simp
   exact hK _ _ (Below.refl _ _) (fun V _ _ _ _=>rfl)
  ·intro f lo hi W2 hb hd K hK;have e26:f 26=_:=(hd 26 (by decide) (by decide));clear hd
   try dsimp only at hK
   generalize f 26=x26 at e26 hK ⊢;subst e26;rw[if_pos (by rfl)];go_simp
   exact hK _ _ (Below.refl _ _) (fun V _ _ _ _=>rfl)
  ·intro f lo hi W2 hb hd K hK;have e27:f 27=_:=(hd 27 (by decide) (by decide));have e26:f 26=_:=(hd 26 (by decide) (by decide));clear hd
   try dsimp only at hK
   generalize f 27=x27 at e27 hK ⊢;generalize f 26=x26 at e26 hK ⊢;subst e27;subst e26;rw[if_pos (by rfl)];go_simp
   exact hK _ _ (Below.refl _ _) (fun V _ _ _ _=>rfl)
  ·intro f lo hi W2 hb hd K hK;have e26:f 26=_:=(hd 26 (by decide) (by decide));have e28:f 28=_:=(hd 28 (by decide) (by decide));clear hd
   try dsimp only at hK
   generalize f 26=x26 at e26 hK ⊢;generalize f 28=x28 at e28 hK ⊢;subst e26;subst e28;rw[if_pos (by rfl)];go_simp
   exact hK _ _ (Below.refl _ _) (fun V _ _ _ _=>rfl)
  ·intro f lo hi W2 hb hd K hK;have e29:f 29=_:=(hd 29 (by decide) (by decide));clear hd
   try dsimp only at hK
   generalize f 29=x29 at e29 hK ⊢;subst e29;rw[if_pos (by rfl)];go_simp
   exact hK _ _ (Below.refl _ _) (fun V _ _ _ _=>rfl)
  ·intro f lo hi W2 hb hd K hK;have e30:f 30=_:=(hd 30 (by decide) (by decide));clear hd
   try dsimp only at hK
   generalize f 30=x30 at e30 hK ⊢;subst e30;rw[if_pos (by rfl)];go_simp
   exact hK _ _ (Below.refl _ _) (fun V _ _ _ _=>rfl)
  ·intro f lo hi W2 hb hd K hK;have e31:f 31=_:=(hd 31 (by decide) (by decide));have e30:f 30=_:=(hd 30 (by decide) (by decide));clear hd
   try dsimp only at hK
   generalize f 31=x31 at e31 hK ⊢;generalize f 30=x30 at e30 hK ⊢;subst e31;subst e30;rw[if_pos (by rfl)];go_simp
   exact hK _ _ (Below.refl _ _) (fun V _ _ _ _=>rfl)
  ·intro f lo hi W2 hb hd K hK;have e30:f 30=_:=(hd 30 (by decide) (by decide));have e32:f 32=_:=(hd 32 (by decide) (by decide));clear hd
   try dsimp only at hK
   generalize f 30=x30 at e30 hK ⊢;generalize f 32=x32 at e32 hK ⊢;subst e30;subst e32;rw[if_pos (by rfl)];go_simp
   exact hK _ _ (Below.refl _ _) (fun V _ _ _ _=>rfl)
  ·intro f lo hi W2 hb hd K hK;have e33:f 33=_:=(hd 33 (by decide) (by decide));clear hd
   try dsimp only at hK
   generalize f 33=x33 at e33 hK ⊢;subst e33;rw[if_pos (by rfl)];go_simp
   exact hK _ _ (Below.refl _ _) (fun V _ _ _ _=>rfl)
  ·intro f lo hi W2 hb hd K hK;have e34:f 34=_:=(hd 34 (by decide) (by decide));clear hd
   try dsimp only at hK
   generalize f 34=x34 at e34 hK ⊢;subst e34;rw[if_pos (by rfl)];go_simp
   exact hK _ _ (Below.refl _ _) (fun V _ _ _ _=>rfl)
  ·intro f lo hi W2 hb hd K hK;have e35:f 35=_:=(hd 35 (by decide) (by decide));have e34:f 34=_:=(hd 34 (by decide) (by decide));clear hd
   try dsimp only at hK
   generalize f 35=x35 at e35 hK ⊢;generalize f 34=x34 at e34 hK ⊢;subst e35;subst e34;rw[if_pos (by rfl)];go_simp
   exact hK _ _ (Below.refl _ _) (fun V _ _ _ _=>rfl)
  ·intro f lo hi W2 hb hd K hK;have e34:f 34=_:=(hd 34 (by decide) (by decide));have e36:f 36=_:=(hd 36 (by decide) (by decide));clear hd
   try dsimp only at hK
   generalize f 34=x34 at e34 hK ⊢;generalize f 36=x36 at e36 hK ⊢;subst e34;subst e36;rw[if_pos (by rfl)];go_simp
   exact hK _ _ (Below.refl _ _) (fun V _ _ _ _=>rfl)
  ·intro f lo hi W2 hb hd K hK;have e37:f 37=_:=(hd 37 (by decide) (by decide));clear hd
   try dsimp only at hK
   generalize f 37=x37 at e37 hK ⊢;subst e37;rw[if_pos (by rfl)];go_simp
   exact hK _ _ (Below.refl _ _) (fun V _ _ _ _=>rfl)
  ·intro f lo hi W2 hb hd K hK;have e38:f 38=_:=(hd 38 (by decide) (by decide));clear hd
   try dsimp only at hK
   generalize f 38=x38 at e38 hK ⊢;subst e38;rw[if_pos (by rfl)];go_simp
   exact hK _ _ (Below.refl _ _) (fun V _ _ _ _=>rfl)
  ·intro f lo hi W2 hb hd K hK;have e39:f 39=_:=(hd 39 (by decide) (by decide));have e38:f 38=_:=(hd 38 (by decide) (by decide));clear hd
   try dsimp only at hK
   generalize f 39=x39 at e39 hK ⊢;generalize f 38=x38 at e38 hK ⊢;subst e39;subst e38;rw[if_pos (by rfl)];go_simp
   exact hK _ _ (Below.refl _ _) (fun V _ _ _ _=>rfl)
  ·intro f lo hi W2 hb hd K hK;have e38:f 38=_:=(hd 38 (by decide) (by decide));have e40:f 40=_:=(hd 40 (by decide) (by decide));clear hd
   try dsimp only at hK
   generalize f 38=x38 at e38 hK ⊢;generalize f 40=x40 at e40 hK ⊢;subst e38;subst e40;rw[if_pos (by rfl)];go_simp
   exact hK _ _ (Below.refl _ _) (fun V _ _ _ _=>rfl)
  ·intro f lo hi W2 hb hd K hK;have e41:f 41=_:=(hd 41 (by decide) (by decide));clear hd
   try dsimp only at hK
   generalize f 41=x41 at e41 hK ⊢;subst e41;rw[if_pos (by rfl)];go_simp
   exact hK _ _ (Below.refl _ _) (fun V _ _ _ _=>rfl)
  ·intro f lo hi W2 hb hd K hK;have e42:f 42=_:=(hd 42 (by decide) (by decide));clear hd
   try dsimp only at hK
   generalize f 42=x42 at e42 hK ⊢;subst e42;rw[if_pos (by rfl)];go_simp
   exact hK _ _ (Below.refl _ _) (fun V _ _ _ _=>rfl)
  ·intro f lo hi W2 hb hd K hK;have e43:f 43=_:=(hd 43 (by decide) (by decide));have e42:f 42=_:=(hd 42 (by decide) (by decide));clear hd
   try dsimp only at hK
   generalize f 43=x43 at e43 hK ⊢;generalize f 42=x42 at e42 hK ⊢;subst e43;subst e42;rw[if_pos (by rfl)];go_simp
   exact hK _ _ (Below.refl _ _) (fun V _ _ _ _=>rfl)
  ·intro f lo hi W2 hb hd K hK;have e42:f 42=_:=(hd 42 (by decide) (by decide));have e44:f 44=_:=(hd 44 (by decide) (by decide));clear hd
   try dsimp only at hK
   generalize f 42=x42 at e42 hK ⊢;generalize f 44=x44 at e44 hK ⊢;subst e42;subst e44;rw[if_pos (by rfl)];go_simp
   exact hK _ _ (Below.refl _ _) (fun V _ _ _ _=>rfl)
  ·intro f lo hi W2 hb hd K hK;have e45:f 45=_:=(hd 45 (by decide) (by decide));clear hd
   try dsimp only at hK
   generalize f 45=x45 at e45 hK ⊢;subst e45;rw[if_pos (by rfl)];go_simp
   exact hK _ _ (Below.refl _ _) (fun V _ _ _ _=>rfl)
  ·intro f lo hi W2 hb hd K hK;have e46:f 46=_:=(hd 46 (by decide) (by decide));clear hd
   try dsimp only at hK
   generalize f 46=x46 at e46 hK ⊢;subst e46;rw[if_pos (by rfl)];go_simp
   exact hK _ _ (Below.refl _ _) (fun V _ _ _ _=>rfl)
  ·intro f lo hi W2 hb hd K hK;have e47:f 47=_:=(hd 47 (by decide) (by decide));have e46:f 46=_:=(hd 46 (by decide) (by decide));clear hd
   try dsimp only at hK
   generalize f 47=x47 at e47 hK ⊢;generalize f 46=x46 at e46 hK ⊢;subst e47;subst e46;rw[if_pos (by rfl)];go_simp
   exact hK _ _ (Below.refl _ _) (fun V _ _ _ _=>rfl)
  ·intro f lo hi W2 hb hd K hK;have e46:f 46=_:=(hd 46 (by decide) (by decide));have e48:f 48=_:=(hd 48 (by decide) (by decide));clear hd
   try dsimp only at hK
   generalize f 46=x46 at e46 hK ⊢;generalize f 48=x48 at e48 hK ⊢;subst e46;subst e48;rw[if_pos (by rfl)];go_simp
   exact hK _ _ (Below.refl _ _) (fun V _ _ _ _=>rfl)
  ·intro f lo hi W2 hb hd K hK;have e49:f 49=_:=(hd 49 (by decide) (by decide));clear hd
   try dsimp only at hK
   generalize f 49=x49 at e49 hK ⊢;subst e49;rw[if_pos (by rfl)];go_simp
   exact hK _ _ (Below.refl _ _) (fun V _ _ _ _=>rfl)
  ·intro f lo hi W2 hb hd K hK;have e50:f 50=_:=(hd 50 (by decide) (by decide));clear hd
   try dsimp only at hK
   generalize f 50=x50 at e50 hK ⊢;subst e50;rw[if_pos (by rfl)];go_simp
   refine(HB1.o W2 (za HX.o hb)).mono ?_;rintro e w2 ⟨rfl,hb2⟩;exact hK _ _ hb2 (fun V _ _ _ _=>rfl)
  ·intro f lo hi W2 hb hd K hK;have e50:f 50=_:=(hd 50 (by decide) (by decide));have e51:f 51=_:=(hd 51 (by decide) (by decide));clear hd
   try dsimp only at hK
   generalize f 50=x50 at e50 hK ⊢;generalize f 51=x51 at e51 hK ⊢;subst e50;subst e51;rw[if_pos (by rfl)];go_simp
   exact hK _ _ (Below.refl _ _) (fun V _ _ _ _=>rfl)
  ·intro f lo hi W2 hb hd K hK;have e52:f 52=_:=(hd 52 (by decide) (by decide));clear hd
   try dsimp only at hK
   generalize f 52=x52 at e52 hK ⊢;subst e52;rw[if_pos (by rfl)];go_simp
   exact hK _ _ (Below.refl _ _) (fun V _ _ _ _=>rfl)
  ·intro f lo hi W2 hb hd K hK;have e53:f 53=_:=(hd 53 (by decide) (by decide));clear hd
   try dsimp only at hK
   generalize f 53=x53 at e53 hK ⊢;subst e53;rw[if_pos (by rfl)];go_simp
   refine(HB2.o W2 (za HX.o hb)).mono ?_;rintro e w2 ⟨rfl,hb2⟩;exact hK _ _ hb2 (fun V _ _ _ _=>rfl)
  ·intro f lo hi W2 hb hd K hK;have e54:f 54=_:=(hd 54 (by decide) (by decide));have e53:f 53=_:=(hd 53 (by decide) (by decide));clear hd
   try dsimp only at hK
   generalize f 54=x54 at e54 hK ⊢;generalize f 53=x53 at e53 hK ⊢;subst e54;subst e53;rw[if_pos (by rfl)];go_simp
   exact hK _ _ (Below.refl _ _) (fun V _ _ _ _=>rfl)
  ·intro f lo hi W2 hb hd K hK;have e53:f 53=_:=(hd 53 (by decide) (by decide));have e55:f 55=_:=(hd 55 (by decide) (by decide));clear hd
   try dsimp only at hK
   generalize f 53=x53 at e53 hK ⊢;generalize f 55=x55 at e55 hK ⊢;subst e53;subst e55;rw[if_pos (by rfl)];go_simp
   exact hK _ _ (Below.refl _ _) (fun V _ _ _ _=>rfl)
  ·intro f lo hi W2 hb hd K hK;have e56:f 56=_:=(hd 56 (by decide) (by decide));clear hd
   try dsimp only at hK
   generalize f 56=x56 at e56 hK ⊢;subst e56;rw[if_pos (by rfl)];go_simp
   exact hK _ _ (Below.refl _ _) (fun V _ _ _ _=>rfl)
  ·intro f lo hi W2 hb hd K hK;have e57:f 57=_:=(hd 57 (by decide) (by decide));clear hd
   try dsimp only at hK
   generalize f 57=x57 at e57 hK ⊢;subst e57;rw[if_pos (by rfl)];go_simp
   refine(HB3.o W2 (za HX.o hb)).mono ?_;rintro e w2 ⟨rfl,hb2⟩;exact hK _ _ hb2 (fun V _ _ _ _=>rfl)
  ·intro f lo hi W2 hb hd K hK;have e57:f 57=_:=(hd 57 (by decide) (by decide));have e58:f 58=_:=(hd 58 (by decide) (by decide));clear hd
   try dsimp only at hK
   generalize f 57=x57 at e57 hK ⊢;generalize f 58=x58 at e58 hK ⊢;subst e57;subst e58;rw[if_pos (by rfl)];go_simp
   exact hK _ _ (Below.refl _ _) (fun V _ _ _ _=>rfl)
  ·intro f lo hi W2 hb hd K hK;have e59:f 59=_:=(hd 59 (by decide) (by decide));clear hd
   try dsimp only at hK
   generalize f 59=x59 at e59 hK ⊢;subst e59;rw[if_pos (by rfl)];go_simp
   exact hK _ _ (Below.refl _ _) (fun V _ _ _ _=>rfl)
  ·intro f lo hi W2 hb hd K hK;have e60:f 60=_:=(hd 60 (by decide) (by decide));clear hd
   try dsimp only at hK
   generalize f 60=x60 at e60 hK ⊢;subst e60;rw[if_pos (by rfl)];go_simp
   exact hK _ _ (Below.refl _ _) (fun V _ _ _ _=>rfl)
  ·intro f lo hi W2 hb hd K hK;have e61:f 61=_:=(hd 61 (by decide) (by decide));have e60:f 60=_:=(hd 60 (by decide) (by decide));clear hd
   try dsimp only at hK
   generalize f 61=x61 at e61 hK ⊢;generalize f 60=x60 at e60 hK ⊢;subst e61;subst e60;rw[if_pos (by rfl)];go_simp
   exact hK _ _ (Below.refl _ _) (fun V _ _ _ _=>rfl)
  ·intro f lo hi W2 hb hd K hK;have e60:f 60=_:=(hd 60 (by decide) (by decide));have e62:f 62=_:=(hd 62 (by decide) (by decide));clear hd
   try dsimp only at hK
   generalize f 60=x60 at e60 hK ⊢;generalize f 62=x62 at e62 hK ⊢;subst e60;subst e62;rw[if_pos (by rfl)];go_simp
   exact hK _ _ (Below.refl _ _) (fun V _ _ _ _=>rfl)
  ·intro f lo hi W2 hb hd K hK;have e63:f 63=_:=(hd 63 (by decide) (by decide));clear hd
   try dsimp only at hK
   generalize f 63=x63 at e63 hK ⊢;subst e63;rw[if_pos (by rfl)];go_simp
   exact hK _ _ (Below.refl _ _) (fun V _ _ _ _=>rfl)
  ·intro f lo hi W2 hb hd K hK;have e64:f 64=_:=(hd 64 (by decide) (by decide));clear hd
   try dsimp only at hK
   generalize f 64=x64 at e64 hK ⊢;subst e64;rw[if_pos (by rfl)];go_simp
   exact hK _ _ (Below.refl _ _) (fun V _ _ _ _=>rfl)
  ·intro f lo hi W2 hb hd K hK;have e65:f 65=_:=(hd 65 (by decide) (by decide));have e64:f 64=_:=(hd 64 (by decide) (by decide));clear hd
   try dsimp only at hK
   generalize f 65=x65 at e65 hK ⊢;generalize f 64=x64 at e64 hK ⊢;subst e65;subst e64;rw[if_pos (by rfl)];go_simp
   exact hK _ _ (Below.refl _ _) (fun V _ _ _ _=>rfl)
  ·intro f lo hi W2 hb hd K hK;have e64:f 64=_:=(hd 64 (by decide) (by decide));have e66:f 66=_:=(hd 66 (by decide) (by decide));clear hd
   try dsimp only at hK
   generalize f 64=x64 at e64 hK ⊢;generalize f 66=x66 at e66 hK ⊢;subst e64;subst e66;rw[if_pos (by rfl)];go_simp
   exact hK _ _ (Below.refl _ _) (fun V _ _ _ _=>rfl)
  ·intro f lo hi W2 hb hd K hK;have e67:f 67=_:=(hd 67 (by decide) (by decide));clear hd
   try dsimp only at hK
   generalize f 67=x67 at e67 hK ⊢;subst e67;rw[if_pos (by rfl)];go_simp
   exact hK _ _ (Below.refl _ _) (fun V _ _ _ _=>rfl)
 case he=>
  intro f lo hi W2 hb hR hbx hk;have e68:f 68=_:=hR 68 (by decide);have HV:=hq (HFI.o W2 (za HX.o hb));clear hR hbx hk;generalize f 68=x68 at *;subst e68;refine zn6 ?_;clear HFI;go_wp2_with fail
  first|exact HV.o|(go_ret;exact HV.o)
end Go.Proofs.YtkafjblfjdpdaaaGreatDoor
