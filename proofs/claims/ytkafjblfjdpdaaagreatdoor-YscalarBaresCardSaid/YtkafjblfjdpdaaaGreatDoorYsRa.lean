/-
  WALK: the law YscalarBares, of a text that is bare.
-/
import Derived.Test.YtkafjblfjdpdaaaGreatDoorYsZ
namespace Go.Proofs.YtkafjblfjdpdaaaGreatDoor
open Go.RowKit
def RB5(s:ByteArray)(va:Value)(rk:Int)(rt:Bs)(i:Nat)(v:Value)(_ _:Nat)(_:World):Prop:=match i with
 |0=>v= .string s
 |1=>v= .bool true
 |2=>v= .bool true
 |3=>v= .int .i64 0
 |6=>v=va
 |7=>v= .string s
 |8=>v= .agg #[.int .i64 rk,.string (st rt),.slice none 0 0,.slice none 0 0]
 |9=>v= .bool true
 |_=>v= .bool false
def RB11T(s:ByteArray)(vb:Value)(i:Nat)(v:Value)(_ _:Nat)(_:World):Prop:=match i with
 |0=>v= .int .i64 0
 |3=>v=vb
 |4=>v= .string s
 |5=>v= .agg #[.int .i64 4,.string s,.slice none 0 0,.slice none 0 0]
 |6=>v= .bool true
 |10=>v= .int .i64 0
 |14=>v= .string s
 |15=>v= .string s
 |_=>v= .bool false
set_option maxHeartbeats 32000000 in
set_option maxRecDepth 1000000 in
theorem ybares_lawT(s:ByteArray)(w:World)(hE:Env w)(hm:mx w)(_hs:s.size≤maxLen)(hbl:bareL s.data.toList=true):Calls Tryz.prog 7 #[.string s] w (BPost true w):=by
 have hst:st s.data.toList=s:=ba_ext (by simp)
 have hll:s.data.toList.length=s.size:=Array.length_toList
 have HSM:Hq (∀V,Below w.heap.size w V→Calls Tryz.prog 8 #[] V (fun e W'=>e= .returned (.bool true)∧Below V.heap.size V W')):=hq (fun V h=>small11_any V (hE.grow h) (mx_grow hm h))
 have HFI:Hq (∀W',Below w.heap.size w W'→BPost true w (.returned (.bool true)) W'):=hq (fun W' h=>⟨rfl,h⟩)
 by_cases hz:2048<s.size
 ·have hz1:(2048:Int)<(s.size:Int):=by omega
  generalize BPost true w=PP at *
  clear hE hm hbl
  go_enter Tryz.func7,Tryz.ntmps7
  go_wp2_with fail
  refine(HSM.o w (Below.refl _ _)).mono ?_
  rintro e w1 ⟨rfl,hb⟩
  have HV:=hq (HFI.o w1 hb)
  clear hb HSM HFI
  go_wp2_with fail
  first|exact HV.o|(go_ret;exact HV.o)
 have hz1: ¬(2048:Int)<(s.size:Int):=by omega
 have h4:s.size≤2048:=by omega
 obtain⟨rk,rt,hrk⟩:=resolve_leaf s.data.toList
 have HRS:Hq (∀V,Below w.heap.size w V→Calls Tryz.prog 17 #[.string s] V fun e W'=>e= .returned (.agg #[.int .i64 rk,.string (st rt),.slice none 0 0,.slice none 0 0])∧Below V.heap.size V W'):=hq (fun V h=>by
  have:=yresolve_any s V (hE.grow h) (by omega)
  unfold LeafR at this
  rw[hrk]at this
  exact this)
 have HBA:=hq (fun V (h:Below w.heap.size w V)=>ybare_any s V (hE.grow h).tab (by omega))
 have hrng:(resolveL s.data.toList).All Vl.Rng:=resolve_rng _ (by omega)
 have HRD:=hq (fun V (h:Below w.heap.size w V)=>(yreadV_any s V (hE.grow h) (by omega)).mono (R':=fun e W'=> ∃(k:Int) (t:Bs) (ko:Option Addr) (kn kc:Nat) (o:Option Addr) (n c:Nat) (er:Int),e= .returned (.tuple #[.agg #[.int .i64 k,.string (st t),.slice ko kn kc,.slice o n c],.int .i64 er])∧(bareL s.data.toList=true→er=0∧IsVR (.mk rk rt [] []) (.agg #[.int .i64 k,.string (st t),.slice ko kn kc,.slice o n c]) W')∧Below V.heap.size V W') (fun e W' h=>by
  obtain⟨y,v,er,h1,h2,h3,h5,h6⟩:=h
  obtain⟨yk,yt,⟨yko,ykc,ykl⟩,yo,yc,yis⟩:=y
  rw[Vt.v_mk']at h2
  refine⟨_,_,_,_,_,_,_,_,_,h2,fun hb=> ?_,h6⟩
  obtain⟨rfl,rfl⟩:=rdOf_one h1 (read_bare hb)
  refine⟨rfl,⟨_,(Vt.v_mk' _ _ _ _ _ _ _ _).symm,h3.ok (by rw[h5];exact hrng),by rw[h5,hrk]⟩⟩))
 have HRI:Hq (∀V,IsVR (.mk rk rt [] []) (.agg #[.int .i64 rk,.string (st rt),.slice none 0 0,.slice none 0 0]) V):=hq (fun V=>⟨leafT rk rt,rfl,by
  have:=hrng
  rw[hrk]at this
  have:=this.here
  exact leaf_ok rk rt V this.hk this.ht,leafT_m _ _⟩)
 have HQD:=hq (fun V (h:Below w.heap.size w V)=>quoted_any s V (hE.grow h).tab (mx_grow hm h) (by omega))
 have HQ0:Hq ((quotedM s).2=0→(quotedM s).1.length≤5000∧keyL (quotedM s).1=(s.data.toList,0)∧ ∀u er,RdOf (quotedM s).1 u er→u= .mk 4 s.data.toList [] []∧er=0):=hq (fun h=>by
  have hc:cleanM s false=s.size:=by
   unfold quotedM at h
   by_cases hc:cleanM s false=s.size
   ·exact hc
   ·rw[if_neg hc]at h
    exact absurd h (show¬((2:Int)=0) by decide)
  have hq1:quotedM s=(39::dblB s.data.toList++[39],0):=by unfold quotedM;rw[if_pos hc]
  have hsr:=single_read (t:=s.data.toList) (by rw[hst];exact hc)
  rw[hq1]
  refine⟨?_,?_,fun u er hr=> ?_⟩
  ·have:=dblB_len s.data.toList
   simp only[List.length_append,List.length_cons,List.length_nil]
   omega
  ·show keyL (39::(dblB s.data.toList++[39]))=_
   unfold keyL
   simp only
   rw[if_pos (by decide)]
   exact hsr
  ·have hr:RdOf (39::(dblB s.data.toList++[39])) u er:=hr
   unfold RdOf at hr
   simp only at hr
   have hsr:quotL (39::(dblB s.data.toList++[39]))=(s.data.toList,0):=hsr
   rw[if_pos (by decide),hsr,if_pos rfl]at hr
   exact⟨hr.2,hr.1⟩)
 have HRQ:=hq (fun (h0:(quotedM s).2=0) V (h:Below w.heap.size w V)=>(show Calls Tryz.prog 9 #[.string (st (quotedM s).1)] V fun e W'=> ∃(k:Int) (t:Bs) (ko:Option Addr) (kn kc:Nat) (o:Option Addr) (n c:Nat),e= .returned (.tuple #[.agg #[.int .i64 k,.string (st t),.slice ko kn kc,.slice o n c],.int .i64 0])∧IsVR (.mk 4 s.data.toList [] []) (.agg #[.int .i64 k,.string (st t),.slice ko kn kc,.slice o n c]) W'∧Below V.heap.size V W' from by
  have:=yreadV_any (st (quotedM s).1) V (hE.grow h) (by rw[st_size];have:=(HQ0.o h0).1;omega)
  rw[st_list]at this
  refine this.mono ?_
  rintro e W' ⟨y,v,er,h1,rfl,h3,h5,h6⟩
  obtain⟨rfl,rfl⟩:=(HQ0.o h0).2.2 v er h1
  obtain⟨yk,yt,⟨yko,ykc,ykl⟩,yo,yc,yis⟩:=y
  exact⟨_,_,_,_,_,_,_,_,by rw[Vt.v_mk'],⟨_,(Vt.v_mk' _ _ _ _ _ _ _ _).symm,h3.ok (by rw[h5];exact leaf_rng (by decide) (by unfold maxLen;omega)),h5⟩,h6⟩))
 have HKQ:=hq (fun (h0:(quotedM s).2=0) V (h:Below w.heap.size w V)=>(show Calls Tryz.prog 13 #[.string (st (quotedM s).1)] V fun e W'=>e= .returned (.tuple #[.string s,.int .i64 0])∧Below V.heap.size V W' from by
  have:=ykeyR_any (st (quotedM s).1) V (hE.grow h).tab (by rw[st_size];have:=(HQ0.o h0).1;omega)
  rw[st_list,(HQ0.o h0).2.1]at this
  unfold StrPost at this
  simp only[hst]at this
  exact this))
 have HKY:=hq (fun V (h:Below w.heap.size w V)=>ykeyR_any s V (hE.grow h).tab (by omega))
 have HKB:Hq (bareL s.data.toList=true→keyL s.data.toList=(s.data.toList,0)):=hq key_bare
 have HOF:Hq (∀V,Below w.heap.size w V→Calls Tryz.prog 29 #[.string s] V fun e W'=>e= .returned (.agg #[.int .i64 4,.string s,.slice none 0 0,.slice none 0 0])∧Below V.heap.size V W'):=hq (fun V _=>by
  have h:=vOf_any s.data.toList V
  rw[hst]at h
  exact h.mono fun e W' h=>⟨by rw[h.1,leafT_v,hst],h.2⟩)
 have HOI:Hq (∀V,IsVR (.mk 4 s.data.toList [] []) (.agg #[.int .i64 4,.string s,.slice none 0 0,.slice none 0 0]) V):=hq (fun V=>⟨leafT 4 s.data.toList,by rw[leafT_v,hst],leaf_ok 4 _ V (by decide) (by unfold maxLen;omega),leafT_m _ _⟩)
 have HSS:Hq (st s.data.toList=s):=hq hst
 have hse:(s.toList==s.toList)=true:=beq_self_eq_true _
 have hsn:(s.toList !=s.toList)=false:=bne_self_eq_false _
 unfold StrPost at HKY
 unfold QuotedPost at HQD
 generalize BPost true w=PP at *
 generalize quotedM s=QM at *
 obtain⟨qb,qe⟩:=QM
 simp only at HQD HQ0 HRQ HKQ
 generalize keyL s.data.toList=KL at *
 generalize bareL s.data.toList=BL at *
 generalize s.data.toList=L at *
 clear hE hm _hs hz hrk hrng hst hll HQ0 h4
 go_enter Tryz.func7,Tryz.ntmps7
 go_wp2_with fail
 refine(HSM.o w (Below.refl _ _)).mono ?_
 rintro e w1 ⟨rfl,hb⟩
 have HB1:=hq hb
 clear hb HSM
 go_wp2_with fail
 refine(HRD.o w1 HB1.o).mono ?_
 rintro e w2 ⟨ak,at_,ako,akn,akc,ao,an,ac,er,rfl,hbare,hb⟩
 go_upto_region 5 with fail
 have hb3:=below_alloc w2 (.cells #[.int .i64 ak,.string (st at_),.slice ako akn akc,.slice ao an ac] 26)
 have HB4:=hq (below_trans (below_trans HB1.o hb) hb3)
 have HY4:=hq (Whole.made w2 26 #[.int .i64 ak,.string (st at_),.slice ako akn akc,.slice ao an ac])
 have HBR:=hq (fun h=>(hbare h).imp id (fun g=>g.growR hb3))
 clear hb hb3 hbare HB1 HRD
 generalize (w2.alloc (.cells #[.int .i64 ak,.string (st at_),.slice ako akn akc,.slice ao an ac] 26))=w4 at *
 generalize w2.heap.size=ga at *
 generalize hva:Value.agg #[.int .i64 ak,.string (st at_),.slice ako akn akc,.slice ao an ac]=va at *
 subst hbl
 obtain⟨her,hai⟩:=HBR.o rfl
 subst her
 have hkl:=HKB.o rfl
 subst hkl
 simp only[HSS.o]at HKY
 clear HKB
 have HEQ:=hq (fun V (h:Below w4.heap.size w4 V)=>equalVR_any (r:=true) (hai.growR h) (HRI.o V) ⟨fun _=>rfl,fun _=>rfl⟩)
 clear HBR hai HRI
 refine go_flow (by kernel_rfl) [(0,24),(1,25),(2,26),(3,27),(4,28),(5,29),(6,30),(7,31),(8,32),(9,33),(10,34),(11,35),(12,36)] [[0],[1,0],[2,1,0],[3,2,1,0],[4,3,2,1,0],[5,4,3,2,1,0],[6,5,4,3,2,1,0],[7,5,4,3,2,1,0],[8,7,5,4,3,2,1,0],[9,6,5,4,3,2,1,0,8,7],[10,9,6,5,4,3,2,1,0,8,7],[11,5,4,3,2,1,0,10,9,6,8,7],[12,2,1,0,11,5,4,3,10,9,6,8,7]] [] [] (RB5 s va rk rt) ?Aa ?hAa (by kernel_rfl) ?hsa ?hea
 case hAa=>
  intro f
  simp only[putS]
  go_simp
  rfl
 case hsa=>
  refine Steps.cons rfl ?_ (Steps.cons rfl ?_ (Steps.cons rfl ?_ (Steps.cons rfl ?_ (Steps.cons rfl ?_ (Steps.cons rfl ?_ (Steps.cons rfl ?_ (Steps.cons rfl ?_ (Steps.cons rfl ?_ (Steps.cons rfl ?_ (Steps.cons rfl ?_ (Steps.cons rfl ?_ (Steps.cons rfl ?_ Steps.nil))))))))))))
  ·intro f lo hi W2 hb hd K hK
   rw[if_pos (by rfl)]
   go_simp
   exact hK _ _ (Below.refl _ _) (fun V _ _ _ _=>rfl)
  ·intro f lo hi W2 hb hd K hK
   have e0:f 0=_:=(hd 0 (by decide) (by decide))
   clear hd
   try dsimp only at hK
   generalize f 0=x0 at e0 hK ⊢
   subst e0
   rw[if_pos (by rfl)]
   go_simp
   refine(HBA.o W2 (below_trans HB4.o hb)).mono ?_
   rintro e w2 ⟨rfl,hb2⟩
   exact hK _ _ hb2 (fun V _ _ _ _=>rfl)
  ·intro f lo hi W2 hb hd K hK
   have e1:f 1=_:=(hd 1 (by decide) (by decide))
   clear hd
   try dsimp only at hK
   generalize f 1=x1 at e1 hK ⊢
   subst e1
   rw[if_pos (by rfl)]
   go_simp
   exact hK _ _ (Below.refl _ _) (fun V _ _ _ _=>rfl)
  ·intro f lo hi W2 hb hd K hK
   have e2:f 2=_:=(hd 2 (by decide) (by decide))
   clear hd
   try dsimp only at hK
   generalize f 2=x2 at e2 hK ⊢
   subst e2
   rw[if_pos (by rfl)]
   go_simp
   exact hK _ _ (Below.refl _ _) (fun V _ _ _ _=>rfl)
  ·intro f lo hi W2 hb hd K hK
   have e3:f 3=_:=(hd 3 (by decide) (by decide))
   have e2:f 2=_:=(hd 2 (by decide) (by decide))
   clear hd
   try dsimp only at hK
   generalize f 3=x3 at e3 hK ⊢
   generalize f 2=x2 at e2 hK ⊢
   subst e3
   subst e2
   rw[if_pos (by rfl)]
   go_simp
   exact hK _ _ (Below.refl _ _) (fun V _ _ _ _=>rfl)
  ·intro f lo hi W2 hb hd K hK
   have e4:f 4=_:=(hd 4 (by decide) (by decide))
   have e2:f 2=_:=(hd 2 (by decide) (by decide))
   clear hd
   try dsimp only at hK
   generalize f 4=x4 at e4 hK ⊢
   generalize f 2=x2 at e2 hK ⊢
   subst e4
   subst e2
   rw[if_pos (by rfl)]
   go_simp
   exact hK _ _ (Below.refl _ _) (fun V _ _ _ _=>rfl)
  ·intro f lo hi W2 hb hd K hK
   have e5:f 5=_:=(hd 5 (by decide) (by decide))
   clear hd
   try dsimp only at hK
   generalize f 5=x5 at e5 hK ⊢
   subst e5
   rw[if_pos (by rfl)]
   obtain⟨y0,y1,y2,y3⟩:=four_cells (HY4.o.grow hb)
   rw[←hva]
   go_simp
   exact hK _ _ (Below.refl _ _) (fun V _ _ _ _=>rfl)
  ·intro f lo hi W2 hb hd K hK
   have e5:f 5=_:=(hd 5 (by decide) (by decide))
   clear hd
   try dsimp only at hK
   generalize f 5=x5 at e5 hK ⊢
   subst e5
   rw[if_pos (by rfl)]
   go_simp
   exact hK _ _ (Below.refl _ _) (fun V _ _ _ _=>rfl)
  ·intro f lo hi W2 hb hd K hK
   have e7:f 7=_:=(hd 7 (by decide) (by decide))
   have e5:f 5=_:=(hd 5 (by decide) (by decide))
   clear hd
   try dsimp only at hK
   generalize f 7=x7 at e7 hK ⊢
   generalize f 5=x5 at e5 hK ⊢
   subst e7
   subst e5
   rw[if_pos (by rfl)]
   go_simp
   refine(HRS.o W2 (below_trans HB4.o hb)).mono ?_
   rintro e w2 ⟨rfl,hb2⟩
   exact hK _ _ hb2 (fun V _ _ _ _=>rfl)
  ·intro f lo hi W2 hb hd K hK
   have e6:f 6=_:=(hd 6 (by decide) (by decide))
   have e8:f 8=_:=(hd 8 (by decide) (by decide))
   have e5:f 5=_:=(hd 5 (by decide) (by decide))
   clear hd
   try dsimp only at hK
   generalize f 6=x6 at e6 hK ⊢
   generalize f 8=x8 at e8 hK ⊢
   generalize f 5=x5 at e5 hK ⊢
   subst e6
   subst e8
   subst e5
   rw[if_pos (by rfl)]
   go_simp
   refine(HEQ.o W2 hb).mono ?_
   rintro e w2 ⟨rfl,hb2⟩
   exact hK _ _ hb2 (fun V _ _ _ _=>rfl)
  ·intro f lo hi W2 hb hd K hK
   have e9:f 9=_:=(hd 9 (by decide) (by decide))
   have e5:f 5=_:=(hd 5 (by decide) (by decide))
   clear hd
   try dsimp only at hK
   generalize f 9=x9 at e9 hK ⊢
   generalize f 5=x5 at e5 hK ⊢
   subst e9
   subst e5
   rw[if_pos (by rfl)]
   go_simp
   exact hK _ _ (Below.refl _ _) (fun V _ _ _ _=>rfl)
  ·intro f lo hi W2 hb hd K hK
   have e5:f 5=_:=(hd 5 (by decide) (by decide))
   have e10:f 10=_:=(hd 10 (by decide) (by decide))
   have e2:f 2=_:=(hd 2 (by decide) (by decide))
   clear hd
   try dsimp only at hK
   generalize f 5=x5 at e5 hK ⊢
   generalize f 10=x10 at e10 hK ⊢
   generalize f 2=x2 at e2 hK ⊢
   subst e5
   subst e10
   subst e2
   rw[if_pos (by rfl)]
   go_simp
   exact hK _ _ (Below.refl _ _) (fun V _ _ _ _=>rfl)
  ·intro f lo hi W2 hb hd K hK
   have e2:f 2=_:=(hd 2 (by decide) (by decide))
   have e11:f 11=_:=(hd 11 (by decide) (by decide))
   clear hd
   try dsimp only at hK
   generalize f 2=x2 at e2 hK ⊢
   generalize f 11=x11 at e11 hK ⊢
   subst e2
   subst e11
   rw[if_pos (by rfl)]
   go_simp
   exact hK _ _ (Below.refl _ _) (fun V _ _ _ _=>rfl)
 case hea=>
  intro f lo hi W2 hb hR hbx hk
  have e12:f 12=_:=hR 12 (by decide)
  have HB5:=hq (below_trans HB4.o hb)
  clear hR hbx hk
  generalize f 12=x12 at *
  subst e12
  refine wpOps_done ?_
  clear HB4 HY4 HEQ HRS
  generalize W2=w5 at *
  go_wp2_with fail
  refine(HQD.o w5 HB5.o).mono ?_
  rintro e w6 ⟨rfl,hb⟩
  have HB6:=hq (below_trans HB5.o hb)
  clear hb HQD
  by_cases hq0:qe=0
  ·subst hq0
   have HRX:=hq (HRQ.o rfl)
   have HKX:=hq (HKQ.o rfl)
   clear HRQ HKQ
   go_wp2_with fail
   refine(HRX.o w6 HB6.o).mono ?_
   rintro e w7 ⟨bk,bt,bko,bkn,bkc,bo,bn,bc,rfl,hbi,hb⟩
   go_upto_region 10 with fail
   have hb3:=below_alloc w7 (.cells #[.int .i64 bk,.string (st bt),.slice bko bkn bkc,.slice bo bn bc] 26)
   have HB7:=hq (below_trans (below_trans HB6.o hb) hb3)
   have HY7:=hq (Whole.made w7 26 #[.int .i64 bk,.string (st bt),.slice bko bkn bkc,.slice bo bn bc])
   have HI7:=hq (hbi.growR hb3)
   clear hb hb3 hbi HB6 HRX
   generalize (w7.alloc (.cells #[.int .i64 bk,.string (st bt),.slice bko bkn bkc,.slice bo bn bc] 26))=wB at *
   generalize w7.heap.size=gB at *
   generalize hvb:Value.agg #[.int .i64 bk,.string (st bt),.slice bko bkn bkc,.slice bo bn bc]=vb at *
   go_wp2_with fail
   refine(HKX.o wB HB7.o).mono ?_
   rintro e w8 ⟨rfl,hb⟩
   have HB8:=hq (below_trans HB7.o hb)
   have HY8:=hq (HY7.o.grow hb)
   have HI8:=hq (HI7.o.growR hb)
   clear hb HB7 HY7 HI7 HKX
   have HEQ2:=hq (fun V (h:Below w8.heap.size w8 V)=>equalVR_any (r:=true) (HI8.o.growR h) (HOI.o V) ⟨fun _=>rfl,fun _=>rfl⟩)
   clear HI8
   go_upto_region 11 with fail
   refine go_flow (by kernel_rfl) [(0,54),(1,55),(2,56),(3,57),(4,58),(5,59),(6,60),(7,61),(8,62),(9,63),(10,64),(11,65),(12,66),(13,67),(14,68),(15,69),(16,70),(17,71)] [[0],[1,0],[2,1,0],[3,2,1,0],[4,2,1,0],[5,4,2,1,0],[6,3,2,1,0,5,4],[7,6,3,2,1,0,5,4],[8,2,1,0,7,6,3,5,4],[9,8,2,1,0,7,6,3,5,4],[10,9,8,2,1,0,7,6,3,5,4],[11,10,9,8,2,1,0,7,6,3,5,4],[12,9,8,2,1,0,7,6,3,5,4,11,10],[13,12,9,8,2,1,0,7,6,3,5,4,11,10],[14,13,12,9,8,2,1,0,7,6,3,5,4,11,10],[15,13,12,9,8,2,1,0,7,6,3,5,4,11,10],[16,14,13,12,9,8,2,1,0,7,6,3,5,4,11,10,15],[17,13,12,9,8,2,1,0,7,6,3,5,4,11,10,16,14,15]] [] [] (RB11T s vb) ?Ab ?hAb (by kernel_rfl) ?hsb ?heb
   case hAb=>
    intro f
    simp only[putS]
    go_simp
    rfl
   case hsb=>
    refine Steps.cons rfl ?_ (Steps.cons rfl ?_ (Steps.cons rfl ?_ (Steps.cons rfl ?_ (Steps.cons rfl ?_ (Steps.cons rfl ?_ (Steps.cons rfl ?_ (Steps.cons rfl ?_ (Steps.cons rfl ?_ (Steps.cons rfl ?_ (Steps.cons rfl ?_ (Steps.cons rfl ?_ (Steps.cons rfl ?_ (Steps.cons rfl ?_ (Steps.cons rfl ?_ (Steps.cons rfl ?_ (Steps.cons rfl ?_ (Steps.cons rfl ?_ Steps.nil)))))))))))))))))
    ·intro f lo hi W2 hb hd K hK
     rw[if_pos (by rfl)]
     go_simp
     exact hK _ _ (Below.refl _ _) (fun V _ _ _ _=>rfl)
    ·intro f lo hi W2 hb hd K hK
     have e0:f 0=_:=(hd 0 (by decide) (by decide))
     clear hd
     try dsimp only at hK
     generalize f 0=x0 at e0 hK ⊢
     subst e0
     rw[if_pos (by rfl)]
     go_simp
     exact hK _ _ (Below.refl _ _) (fun V _ _ _ _=>rfl)
    ·intro f lo hi W2 hb hd K hK
     have e1:f 1=_:=(hd 1 (by decide) (by decide))
     clear hd
     try dsimp only at hK
     generalize f 1=x1 at e1 hK ⊢
     subst e1
     rw[if_pos (by rfl)]
     go_simp
     exact hK _ _ (Below.refl _ _) (fun V _ _ _ _=>rfl)
    ·intro f lo hi W2 hb hd K hK
     have e2:f 2=_:=(hd 2 (by decide) (by decide))
     clear hd
     try dsimp only at hK
     generalize f 2=x2 at e2 hK ⊢
     subst e2
     rw[if_pos (by rfl)]
     obtain⟨y0,y1,y2,y3⟩:=four_cells (HY8.o.grow hb)
     rw[←hvb]
     go_simp
     exact hK _ _ (Below.refl _ _) (fun V _ _ _ _=>rfl)
    ·intro f lo hi W2 hb hd K hK
     have e2:f 2=_:=(hd 2 (by decide) (by decide))
     clear hd
     try dsimp only at hK
     generalize f 2=x2 at e2 hK ⊢
     subst e2
     rw[if_pos (by rfl)]
     go_simp
     exact hK _ _ (Below.refl _ _) (fun V _ _ _ _=>rfl)
    ·intro f lo hi W2 hb hd K hK
     have e4:f 4=_:=(hd 4 (by decide) (by decide))
     have e2:f 2=_:=(hd 2 (by decide) (by decide))
     clear hd
     try dsimp only at hK
     generalize f 4=x4 at e4 hK ⊢
     generalize f 2=x2 at e2 hK ⊢
     subst e4
     subst e2
     rw[if_pos (by rfl)]
     go_simp
     refine(HOF.o W2 (below_trans HB8.o hb)).mono ?_
     rintro e w2 ⟨rfl,hb2⟩
     exact hK _ _ hb2 (fun V _ _ _ _=>rfl)
    ·intro f lo hi W2 hb hd K hK
     have e3:f 3=_:=(hd 3 (by decide) (by decide))
     have e5:f 5=_:=(hd 5 (by decide) (by decide))
     have e2:f 2=_:=(hd 2 (by decide) (by decide))
     clear hd
     try dsimp only at hK
     generalize f 3=x3 at e3 hK ⊢
     generalize f 5=x5 at e5 hK ⊢
     generalize f 2=x2 at e2 hK ⊢
     subst e3
     subst e5
     subst e2
     rw[if_pos (by rfl)]
     go_simp
     refine(HEQ2.o W2 hb).mono ?_
     rintro e w2 ⟨rfl,hb2⟩
     exact hK _ _ hb2 (fun V _ _ _ _=>rfl)
    ·intro f lo hi W2 hb hd K hK
     have e6:f 6=_:=(hd 6 (by decide) (by decide))
     have e2:f 2=_:=(hd 2 (by decide) (by decide))
     clear hd
     try dsimp only at hK
     generalize f 6=x6 at e6 hK ⊢
     generalize f 2=x2 at e2 hK ⊢
     subst e6
     subst e2
     rw[if_pos (by rfl)]
     go_simp
     exact hK _ _ (Below.refl _ _) (fun V _ _ _ _=>rfl)
    ·intro f lo hi W2 hb hd K hK
     have e2:f 2=_:=(hd 2 (by decide) (by decide))
     have e7:f 7=_:=(hd 7 (by decide) (by decide))
     clear hd
     try dsimp only at hK
     generalize f 2=x2 at e2 hK ⊢
     generalize f 7=x7 at e7 hK ⊢
     subst e2
     subst e7
     rw[if_pos (by rfl)]
     go_simp
     exact hK _ _ (Below.refl _ _) (fun V _ _ _ _=>rfl)
    ·intro f lo hi W2 hb hd K hK
     have e8:f 8=_:=(hd 8 (by decide) (by decide))
     clear hd
     try dsimp only at hK
     generalize f 8=x8 at e8 hK ⊢
     subst e8
     rw[if_pos (by rfl)]
     go_simp
     exact hK _ _ (Below.refl _ _) (fun V _ _ _ _=>rfl)
    ·intro f lo hi W2 hb hd K hK
     have e9:f 9=_:=(hd 9 (by decide) (by decide))
     clear hd
     try dsimp only at hK
     generalize f 9=x9 at e9 hK ⊢
     subst e9
     rw[if_pos (by rfl)]
     go_simp
     exact hK _ _ (Below.refl _ _) (fun V _ _ _ _=>rfl)
    ·intro f lo hi W2 hb hd K hK
     have e10:f 10=_:=(hd 10 (by decide) (by decide))
     have e9:f 9=_:=(hd 9 (by decide) (by decide))
     clear hd
     try dsimp only at hK
     generalize f 10=x10 at e10 hK ⊢
     generalize f 9=x9 at e9 hK ⊢
     subst e10
     subst e9
     rw[if_pos (by rfl)]
     go_simp
     exact hK _ _ (Below.refl _ _) (fun V _ _ _ _=>rfl)
    ·intro f lo hi W2 hb hd K hK
     have e9:f 9=_:=(hd 9 (by decide) (by decide))
     have e11:f 11=_:=(hd 11 (by decide) (by decide))
     clear hd
     try dsimp only at hK
     generalize f 9=x9 at e9 hK ⊢
     generalize f 11=x11 at e11 hK ⊢
     subst e9
     subst e11
     rw[if_pos (by rfl)]
     go_simp
     exact hK _ _ (Below.refl _ _) (fun V _ _ _ _=>rfl)
    ·intro f lo hi W2 hb hd K hK
     have e12:f 12=_:=(hd 12 (by decide) (by decide))
     clear hd
     try dsimp only at hK
     generalize f 12=x12 at e12 hK ⊢
     subst e12
     rw[if_pos (by rfl)]
     go_simp
     exact hK _ _ (Below.refl _ _) (fun V _ _ _ _=>rfl)
    ·intro f lo hi W2 hb hd K hK
     have e13:f 13=_:=(hd 13 (by decide) (by decide))
     clear hd
     try dsimp only at hK
     generalize f 13=x13 at e13 hK ⊢
     subst e13
     rw[if_pos (by rfl)]
     go_simp
     exact hK _ _ (Below.refl _ _) (fun V _ _ _ _=>rfl)
    ·intro f lo hi W2 hb hd K hK
     have e13:f 13=_:=(hd 13 (by decide) (by decide))
     clear hd
     try dsimp only at hK
     generalize f 13=x13 at e13 hK ⊢
     subst e13
     rw[if_pos (by rfl)]
     go_simp
     exact hK _ _ (Below.refl _ _) (fun V _ _ _ _=>rfl)
    ·intro f lo hi W2 hb hd K hK
     have e14:f 14=_:=(hd 14 (by decide) (by decide))
     have e15:f 15=_:=(hd 15 (by decide) (by decide))
     have e13:f 13=_:=(hd 13 (by decide) (by decide))
     clear hd
     try dsimp only at hK
     generalize f 14=x14 at e14 hK ⊢
     generalize f 15=x15 at e15 hK ⊢
     generalize f 13=x13 at e13 hK ⊢
     subst e14
     subst e15
     subst e13
     rw[if_pos (by rfl)]
     go_simp
     exact hK _ _ (Below.refl _ _) (fun V _ _ _ _=>rfl)
    ·intro f lo hi W2 hb hd K hK
     have e13:f 13=_:=(hd 13 (by decide) (by decide))
     have e16:f 16=_:=(hd 16 (by decide) (by decide))
     clear hd
     try dsimp only at hK
     generalize f 13=x13 at e13 hK ⊢
     generalize f 16=x16 at e16 hK ⊢
     subst e13
     subst e16
     rw[if_pos (by rfl)]
     go_simp
     exact hK _ _ (Below.refl _ _) (fun V _ _ _ _=>rfl)
   case heb=>
    intro f lo hi W2 hb hR hbx hk
    have e17:f 17=_:=hR 17 (by decide)
    have HB9:=hq (below_trans HB8.o hb)
    clear hR hbx hk
    generalize f 17=x17 at *
    subst e17
    refine wpOps_done ?_
    clear HB8 HY8 HEQ2
    go_wp2_with fail
    refine(HKY.o W2 HB9.o).mono ?_
    rintro e w12 ⟨rfl,hb⟩
    have HB12:=hq (below_trans HB9.o hb)
    clear hb HKY
    go_wp2_with fail
    refine(HBA.o w12 HB12.o).mono ?_
    rintro e w13 ⟨rfl,hb⟩
    have HV:=hq (HFI.o w13 (below_trans HB12.o hb))
    clear hb HB12 HBA HFI
    go_wp2_with fail
    first|exact HV.o|(go_ret;exact HV.o)
  ·have hq1:(qe==0)=false:=beq_eq_false_iff_ne.2 hq0
   clear HRQ HKQ hq0
   go_wp2_with fail
   refine(HKY.o w6 HB6.o).mono ?_
   rintro e w12 ⟨rfl,hb⟩
   have HB12:=hq (below_trans HB6.o hb)
   clear hb HKY
   go_wp2_with fail
   refine(HBA.o w12 HB12.o).mono ?_
   rintro e w13 ⟨rfl,hb⟩
   have HV:=hq (HFI.o w13 (below_trans HB12.o hb))
   clear hb HB12 HBA HFI
   go_wp2_with fail
   first|exact HV.o|(go_ret;exact HV.o)
end Go.Proofs.YtkafjblfjdpdaaaGreatDoor
