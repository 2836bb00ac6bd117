/-
  WALKS: value.decimal, members, node.
  WALKS: value.fits, Open, Right.
  WALKS: value.fits, Open, Right.
  WALKS: value.byKey; Copy and Sorted.
  WALKS: value.rows, of numbers and of trees.
  WALKS: value.objects and its closures.
  PLAIN MATHEMATICS: sorting keeps what a tree is, is done once, and equal in the order means equal, of sorted ones.
-/
import Derived.Test.YtkafjblfjdpdaaaGreatDoorVtRD
import Derived.Test.YtkafjblfjdpdaaaGreatDoorVlBC
import Derived.Test.YtkafjblfjdpdaaaGreatDoorNumKW
import Derived.Lib.OwnBridge
set_option maxHeartbeats 16000000
set_option maxRecDepth 1000000
namespace Go.Proofs.YtkafjblfjdpdaaaGreatDoor
open Go.RowKit Go.WideMaps Go.Maps
theorem zj7(n:Int)(h0:-9223372036854775808<=n)(h1:n<=9223372036854775807):(Lib.itoa n).length<=1000:=by
 have h:=Lib.itoa_length_le n (by omega) (by omega);omega
def DecP(t:Bs)(w:World)(e:Ending)(w':World):Prop:=e= .returned (.tuple #[(numT t).val,.bool (decM t)])/\Below w.heap.size w w'
theorem zB4 {w W:World} (h:Below w.heap.size w W) {g:Nat} (hg:w.heap.size<=g)(a b c:Value):Below w.heap.size w (((W.setCell ⟨g,0,none⟩ a).setCell ⟨g,1,none⟩ b).setCell ⟨g,2,none⟩ c):=
 zd9 (zd9 (zd9 h hg 0 a) hg 1 b) hg 2 c
theorem whole_put3 {W:World} {g:Nat} {T:TypeId} {x y z:Value} (h:Whole W g T #[x,y,z])(a b c:Value):Whole (((W.setCell ⟨g,0,none⟩ a).setCell ⟨g,1,none⟩ b).setCell ⟨g,2,none⟩ c) g T #[a,b,c]:=
 ((h.put 0 a).put 1 b).put 2 c
theorem whole_far3 {W:World} {g k:Nat} {T:TypeId} {cs:Array Value} (h:Whole W g T cs)(hk:g≠k)(a b c:Value):Whole (((W.setCell ⟨k,0,none⟩ a).setCell ⟨k,1,none⟩ b).setCell ⟨k,2,none⟩ c) g T cs:=
 ((h.far (p:=⟨k,0,none⟩) hk a).far (p:=⟨k,1,none⟩) hk b).far (p:=⟨k,2,none⟩) hk c
theorem zI1(t:Bs)(w:World)(hI:Its w)(ht:t.length<=1048576):Calls Tryz.prog 143 #[.string (st t)] w (DecP t w):=by
 have HPR:=hq (fun W=>zy2 (st t) W (by rw[za8];omega));rw[zc7]at HPR;have HI:=hq hI;have HP:Hq (∀(b:Bool) W',b=decM t->Below w.heap.size w W'->DecP t w (.returned (.tuple #[(numT t).val,.bool b])) W'):=hq (fun b W' h h2=>⟨by rw[h],h2⟩);have HD:Hq (decM t=(decide ((zb3 t).2=0)&&decide (zk9 (zb3 t).1=t))):=hq rfl;unfold numT at HP;have HRT:=hq (@zg7 t);unfold zI8 at HPR;generalize DecP t w=PP at *;generalize decM t=DM at *;cases hpm:zb3 t with|mk d er=>
 rw[hpm]at HD HP HPR;have HR:=hq (fun (h:er=0)=>HRT.o (m:=d) (by rw[hpm,h]));obtain⟨neg,D,E⟩:=d;simp only[Dec.val]at HP HPR HD HR;clear hI hpm HRT;go_enter Tryz.func143,Tryz.ntmps143
 go_wp2_with fail
 refine(HPR.o _).mono ?_;rintro e w2 ⟨rfl,hb2⟩;have hb0:=za0 w (.cells #[.bool false,.string ⟨#[]⟩,.int .i64 0] 59);have HB2:=hq (za hb0 hb2);have HWr:=hq ((Whole.made w 59 #[.bool false,.string ⟨#[]⟩,.int .i64 0]).grow hb2);have hgr:w.heap.size<w2.heap.size:=HWr.o.lt;clear hb0 hb2 HPR;go_upto_region 2 with fail
 have hb3:=za0 w2 (.cells #[.bool neg,.string (st D),.int .i64 E] 59);have HB3:=hq (za HB2.o hb3);have HWr3:=hq (HWr.o.grow hb3);have HWn3:=hq (Whole.made w2 59 #[.bool neg,.string (st D),.int .i64 E]);clear hb3 HWr HB2;generalize w2.alloc (.cells #[.bool neg,.string (st D),.int .i64 E] 59)=W3 at *;generalize w2.heap.size=gn at *;have hgw:w.heap.size<=w.heap.size:=Nat.le_refl _;obtain⟨gr,HGR⟩: ∃gr,Hq (gr=w.heap.size):=⟨_,hq rfl⟩;rw[←HGR.o]at hgr HWr3 ⊢;obtain⟨n0,n1,n2⟩:=za2 HWn3.o;obtain⟨z0,z1,z2⟩:=za2 HWr3.o;have f0:=HWr3.o.free 0;have f1:=HWr3.o.free 1;have f2:=HWr3.o.free 2;by_cases her:er=0
 case neg=>
  have e1:(er==0)=false:=beq_eq_false_iff_ne.2 her;have HV:=hq (HP.o false ((((W3.setCell ⟨gr,0,none⟩ (.bool neg)).setCell ⟨gr,1,none⟩ (.string (st D))).setCell ⟨gr,2,none⟩ (.int .i64 E)).drew) (by rw[HD.o,decide_eq_false her];rfl) (zB4 HB3.o (by rw[HGR.o];exact Nat.le_refl _) _ _ _).drew);clear HP HD HR her HI;go_wp2_with fail
  go_region
  all_goals
   go_wp2_with fail
  all_goals
   refine bodyPost_ret (v:= .tuple #[.agg #[.bool neg,.string (st D),.int .i64 E],.bool false]) ?_ rfl HV.o;simp[results,Tryz.results143,go_sem,z0,z1,z2]
 case pos=>
  have e1:(er==0)=true:=beq_iff_eq.2 her;have hr:=HR.o her;have hbd:=zm2 hr;have HTX:=hq (fun V (hV:Below w.heap.size w V)=>zD1 neg D E V (by omega) (by omega) (fun _=>(HI.o.grow hV) E (by omega) (by omega)) (zj7 E (by omega) (by omega)));generalize hTM:zk9 ⟨neg,D,E⟩=TM at *;have HDM:Hq (DM=(TM==t)):=hq (by rw[HD.o,decide_eq_true her,Bool.true_and];by_cases h:TM=t<;>simp[h]);have HA:=hq (HB3.o.drew);have HS:=hq ((zB4 HB3.o (show w.heap.size<=gr by rw[HGR.o];exact Nat.le_refl _) (.bool neg) (.string (st D)) (.int .i64 E)).drew);have HWs:=hq (whole_put3 HWr3.o (.bool neg) (.string (st D)) (.int .i64 E));have HWm:=hq (whole_far3 HWn3.o (show gn≠gr by omega) (.bool neg) (.string (st D)) (.int .i64 E));have HSET:=hq (fun (V:World) (h:Below w.heap.size w V)=>zB4 h (show w.heap.size<=gr by rw[HGR.o];exact Nat.le_refl _) (.bool neg) (.string (st D)) (.int .i64 E));obtain⟨m0,m1,m2⟩:=za2 HWm.o;clear HD HR her HI hr hTM;go_wp2_with fail
  go_region_law ((go_simp
                  go_at_call 43
                  first
                  |(refine(HTX.o W3.drew HA.o).mono ?_
                    rintro e9 w9 ⟨rfl,hb8⟩;have HB9:=hq (za HA.o hb8);have hb9:=za (Below.refl W3.heap.size W3).drew hb8;obtain⟨p0,p1,p2⟩:=za2 (HWn3.o.grow hb9);obtain⟨q0,q1,q2⟩:=za2 (HWr3.o.grow hb9);have g0:=(HWr3.o.grow hb9).free 0;have g1:=(HWr3.o.grow hb9).free 1;have g2:=(HWr3.o.grow hb9).free 2)
                  |(refine(HTX.o _ HS.o).mono ?_
                    rintro e9 w9 ⟨rfl,hb8⟩;have HB9:=hq (za HS.o hb8);have hb9:=za (Below.refl _ (((W3.setCell ⟨gr,0,none⟩ (.bool neg)).setCell ⟨gr,1,none⟩ (.string (st D))).setCell ⟨gr,2,none⟩ (.int .i64 E))).drew hb8;obtain⟨p0,p1,p2⟩:=za2 (HWm.o.grow hb9);obtain⟨q0,q1,q2⟩:=za2 (HWs.o.grow hb9);have g0:=(HWs.o.grow hb9).free 0;have g1:=(HWs.o.grow hb9).free 1;have g2:=(HWs.o.grow hb9).free 2)))
  all_goals
   go_wp2_with fail
  all_goals
   first
   |(refine bodyPost_ret (v:= .tuple #[.agg #[.bool neg,.string (st D),.int .i64 E],.bool (TM==t)]) ?_ rfl (HP.o _ _ HDM.o.symm HB9.o)
     simp[results,Tryz.results143,go_sem,q0,q1,q2]
     done)
   |(refine bodyPost_ret (v:= .tuple #[.agg #[.bool neg,.string (st D),.int .i64 E],.bool (TM==t)]) ?_ rfl (HP.o _ _ HDM.o.symm (HSET.o _ HB9.o))
     simp[results,Tryz.results143,go_sem,q0,q1,q2]
     done)
structure Env(w:World):Prop where
 its:Its w
 err:ErrAt w
 tab:tabs w
theorem Env.grow {w w':World} (h:Env w)(hb:Below w.heap.size w w'):Env w':=⟨h.its.grow hb,h.err.grow hb,zi5 h.tab hb⟩
theorem strKeyedV:Keyed Tryz.prog 9:=string_keyed Tryz.underlying9
theorem key_stV {x:Bs} (h:x.length<=maxLen):keyOf Tryz.prog 9 (.string (st x))=some (.string x):=by
 have:=keyOf_string_mk Tryz.underlying9 (s:=st x) (by rw[za8];exact h);rw[zc7]at this;exact this
def MapK(w:World)(b k:Nat)(l:List Bs):Prop:=w.ownsMap Tryz.prog 9 (plainElem (H:=Unit) Tryz.prog 3) b k (zq3 l k)
theorem MapK.kept {w w':World} {b k:Nat} {l:List Bs} {row:Option Nat} (h:MapK w b k l)(hg:w.grownBy w' row)(hne:some b≠row):MapK w' b k l:=World.ownsMap.kept h hg hne
theorem MapK.grow {w w':World} {b k:Nat} {l:List Bs} (h:MapK w b k l)(hb:Below w.heap.size w w'):MapK w' b k l:=h.kept (row:=none) (zb9 hb none) (by simp)
theorem wf_i64V(k:Nat)(h:k<=9223372036854775807):(Lit.int .i64 (k:Int)).wf=true:=by
 have h1:IntKind.i64.min=-9223372036854775808:=by decide
 have h2:IntKind.i64.max=9223372036854775807:=by decide
 simp[Lit.wf,h1,h2];omega
theorem run_mapHint(n:Int)(W:World):(Instr.makeMap 195 (some (.int .i64 n))).run Tryz.prog W= .ok (.map (some W.heap.size)) (W.alloc (.map #[] 0)):=by
 simp[Instr.makeMap,run_underlying Tryz.underlying195,asInt,asIntOf,Result.andThen]
theorem nodup_size(l:List Bs):decide (size (zq3 l l.length)=l.length)=decide l.Nodup:=by
 have h:=(zK8 l l.length (Nat.le_refl _)).2;rw[List.take_length]at h;exact decide_eq_decide.2 h
theorem members_any(x:Vt)(w:World)(hE:Env w)(hok:x.Ok w)(hs: ∀k∈x.ks.l,k.length<=1048576):Calls Tryz.prog 142 #[x.v] w (zm9 (zf9 x.ks.l x.is.length) w):=by
 obtain⟨k,t,⟨ko,kc,kl⟩,o,c,is⟩:=x;have hn:=hok.hl;have hc:=hok.hc;have hkl:kl.length<=kc:=hok.hks.le;have hkc:kc<=maxLen:=hok.hks.cp;unfold maxLen at hc hkc;have HKB:=hq hs;simp only[Vt.ks]at HKB;rw[Vt.v_mk'];simp only[Vt.ks,Vt.is];have HP:Hq (∀(b:Bool) W',b=zf9 kl is.length->Below w.heap.size w W'->zm9 (zf9 kl is.length) w (.returned (.bool b)) W'):=hq (fun b W' h h2=>⟨by rw[h],h2⟩);have HMD:Hq (zf9 kl is.length=(decide (kl.length=is.length)&&(decide (kl.length<=4096)&&(kl.all (fun k=>(valid (st k)).2)&&decide kl.Nodup)))):=hq rfl;generalize zm9 (zf9 kl is.length) w=PP at *;generalize zf9 kl is.length=MD at *;have hb0:=za0 w (.cells #[.int .i64 k,.string (st t),.slice ko kl.length kc,.slice o is.length c] 26);have HOK:=hq (hok.grow hb0);have HE:=hq (hE.grow hb0);have HW0:=hq (Whole.made w 26 #[.int .i64 k,.string (st t),.slice ko kl.length kc,.slice o is.length c]);have HB0:=hq hb0;clear hok hb0 hs hE;go_enter Tryz.func142,Tryz.ntmps142
 go_upto_region 1 with fail
 generalize w.heap.size=g at HW0;generalize (w.alloc (.cells #[.int .i64 k,.string (st t),.slice ko kl.length kc,.slice o is.length c] 26))=V0 at *;have hVg:=hq (fun wr (hb:Below V0.heap.size V0 wr)=>za1 (HW0.o.grow hb));obtain⟨c0,c1,c2,c3⟩:=hVg.o V0 (Below.refl _ _);by_cases hl1:kl.length=is.length
 case neg=>
  have hz:((kl.length:Int) !=(is.length:Int))=true:=bne_iff_ne.2 (by omega);have HV:=hq (HP.o false V0 (by rw[HMD.o,decide_eq_false hl1];rfl) HB0.o);clear HP HMD hl1;go_wp2_with fail
  exact HV.o
 have hz:((kl.length:Int) !=(is.length:Int))=false:=by rw[bne,beq_iff_eq.2 (by omega)];rfl
 by_cases hl2:kl.length<=4096
 case neg=>
  have hz2:(4096:Int)<(kl.length:Int):=by omega
  have HV:=hq (HP.o false V0 (by rw[HMD.o,decide_eq_false hl2,decide_eq_true hl1];rfl) HB0.o);clear HP HMD hl1 hl2;go_wp2_with fail
  exact HV.o
 have hz2: ¬(4096:Int)<(kl.length:Int):=by omega
 have HMD2:Hq (MD=(kl.all (fun k=>(valid (st k)).2)&&decide kl.Nodup)):=hq (by rw[HMD.o,decide_eq_true hl1,decide_eq_true hl2];rfl);clear HMD hl1;have hmm:=run_mapHint;go_upto_region 4 with fail
 have hb1:=za0 V0 (.map #[] 0);have HM0:Hq (MapK (V0.alloc (.map #[] 0)) V0.heap.size 0 kl):=hq (World.ownsMap_made _ _ _ _);have HB1:=hq hb1;obtain⟨d0,d1,d2,d3⟩:=hVg.o _ hb1;have HGL:Hq (w.heap.size<=V0.heap.size):=hq HB0.o.size;clear hb1 c0 c1 c2 c3 hmm hz hz2;generalize V0.alloc (.map #[] 0)=V1 at *;go_wp2_with fail
 clear d0 d1 d2 d3
 go_loopw [4,5,6,7,28] (fun _ _ _ _ i wr=> ∃j:Nat,j<=kl.length/\i= .int .i64 (j:Int)/\Hq (MapK wr V0.heap.size j kl)/\Hq (∀a (h:a<kl.length),a<j->(valid (st kl[a])).2=true)/\Hq (Below V0.heap.size V0 wr)) (fun _ _ _ _ i _=>kl.length-(intOf i).toNat)
 case atStart=>exact⟨0,Nat.zero_le _,rfl,HM0,hq (fun a _ h=>absurd h (Nat.not_lt_zero _)),HB1⟩
 case round=>
  obtain⟨j,hj,rfl,hm,hv,hb⟩:=hrel;by_cases h:j<kl.length
  ·have hz:(j:Int)<(kl.length:Int):=by omega
   obtain⟨b,f,ho,i0⟩:=(HOK.o.grow hb.o).hks.rd j h;simp only at ho i0;have hxl:=HKB.o kl[j] (List.getElem_mem h);have hkey:=key_stV (x:=kl[j]) (by unfold maxLen;omega);have HST:Hq (zq3 kl (j+1)=(zq3 kl j).put (.string kl[j]) (.lit (.int .i64 j))):=hq (by
    have hg:kl.getD j []=kl[j]:=by simp[h]
    rw[zq3,hg])
   have HN:Hq ((valid (st kl[j])).2=true-> ∀a (h:a<kl.length),a<j+1->(valid (st kl[a])).2=true):=hq (fun h1 a ha h2=>by
    by_cases e:a=j
    ·subst e;exact h1
    ·exact hv.o a ha (by omega))
   have HBAD:Hq ((valid (st kl[j])).2=false->false=MD):=hq (fun h1=>by
    rw[HMD2.o];have h2:kl.all (fun k=>(valid (st k)).2)=false:=by
     rw[List.all_eq_false];exact⟨kl[j],List.getElem_mem h,by rw[h1];simp⟩
    rw[h2];rfl)
   have HVC:=hq (fun W (hbb:Below wr.heap.size wr W)=>zs3 (st kl[j]) W ((HE.o.grow hb.o).grow hbb).tab (by rw[za8];unfold maxLen;omega));generalize kl[j]=x at *;subst ho;generalize valid (st x)=vv at *;obtain⟨v1,v2⟩:=vv;simp only at HN HBAD HVC;go_wp2_with fail
   refine(HVC.o wr (Below.refl _ _)).mono ?_;rintro e w2 ⟨rfl,hb2⟩;have HB2:=hq (za hb.o hb2);have HM2:=hq (hm.o.grow hb2);clear hb2 hm hb i0 hv HVC;cases v2 with
   |false=>
    have HV:=hq (HP.o false w2 (HBAD.o rfl) (za HB0.o HB2.o));clear HP HBAD HN HMD2;go_wp2_with fail
    exact HV.o
   |true=>
    have HN2:=hq (HN.o rfl);clear HN HBAD;have hwf:=wf_i64V j (by omega);have hm0:w2.ownsMap Tryz.prog 9 (plainElem (H:=Unit) Tryz.prog 3) V0.heap.size j (zq3 kl j):=HM2.o;go_wp2_with (at_mapUpdate;refine wpList_mapUpdate_own _ rfl _ _ _ 195 rfl 9 3 strKeyedV Tryz.underlying195 _ V0.heap.size j _ rfl hm0 (by unfold maxLen;omega) _ _ _ rfl rfl hkey _ [] (plainElem_int Tryz.underlying3 hwf) ?_)
    intro w3 hown3 hgrow3;have HM3:Hq (MapK w3 V0.heap.size (j+1) kl):=hq (by unfold MapK;rw[HST.o];exact hown3);have HB3:=hq (HB2.o.grown hgrow3 HB2.o.size (fun q eq=>by have:=Option.some.inj eq;omega));clear hown3 hgrow3 hm0 HM2 HB2 HST;go_wp2_with fail
    go_roundw
    case rel=>exact⟨j+1,h,zb5 (by omega),HM3,HN2,HB3⟩
    case measure=>simp[intOf];omega
  ·have hz: ¬(j:Int)<(kl.length:Int):=by omega
   have hje:j=kl.length:=by omega
   have hmt:=hm.o;rw[hje]at hmt;have hlen:=World.ownsMap.len hmt Tryz.underlying195;have hlen2: ∀ty,(Builtin.len_ #[195] ty #[.map (some V0.heap.size)]).run Tryz.prog wr= .ok (.int .i64 (size (zq3 kl kl.length):Nat)) wr:=hlen;obtain⟨d0,d1,d2,d3⟩:=hVg.o wr hb.o;have HALL:Hq (kl.all (fun k=>(valid (st k)).2)=true):=hq (List.all_eq_true.2 (fun x hx=>by
    obtain⟨a,ha,rfl⟩:=List.mem_iff_getElem.1 hx;exact hv.o a ha (by omega)))
   have HV:=hq (HP.o ((size (zq3 kl kl.length):Int)==(kl.length:Int)) wr (by
    rw[HMD2.o,HALL.o,←nodup_size,Bool.true_and];by_cases e:size (zq3 kl kl.length)=kl.length
    ·rw[decide_eq_true e,beq_iff_eq];omega
    ·rw[decide_eq_false e,beq_eq_false_iff_ne];omega) (za HB0.o hb.o))
   clear hje hmt hlen HALL HP HMD2 hv hm;generalize size (zq3 kl kl.length)=sz at *;go_wp2_with fail
   exact HV.o
theorem numT_bd(t:Bs):(numT t).digits.length<=1000/\-1000000<=(numT t).exp/\(numT t).exp<=1000000:=by
 unfold numT;by_cases h:(zb3 t).2=0
 ·have hr:=zg7 (l:=t) (m:=(zb3 t).1) (Prod.ext rfl h);have:=zm2 (n:=(zb3 t).1.neg) (D:=(zb3 t).1.digits) (E:=(zb3 t).1.exp) hr;exact this
 ·have hz:(zb3 t).1= .zero:=by
   unfold zb3 at h ⊢
   repeat' split
   all_goals first|rfl|(exfalso;revert h;simp[*])
  rw[hz];exact⟨by simp[Dec.zero],by simp[Dec.zero],by simp[Dec.zero]⟩
theorem zP3(k:Int)(t:Bs)(ks:List Bs)(is:List Vl):zm8 (.mk k t ks is)=if k=5 then decide (t=[])&&decide (ks=[]) else if k=6 then decide (t=[])&&zf9 ks is.length else(decide (ks=[])&&decide (is=[]))&&zh7 k t:=rfl
theorem len_zero {α:Type} {l:List α}:l=[]↔((l.length:Int)=0):=by
 constructor
 ·intro h;rw[h];rfl
 ·intro h;exact List.length_eq_zero_iff.1 (by omega)
theorem node_any(x:Vt)(w:World)(hE:Env w)(hok:x.Ok w)(ht:x.t.length<=1048576)(hs: ∀k∈x.ks.l,k.length<=1048576):Calls Tryz.prog 103 #[x.v] w (zm9 (zm8 x.m) w):=by
 have HMB:=hq (fun W (hb:Below w.heap.size w W)=>members_any x W (hE.grow hb) (hok.grow hb) hs);obtain⟨k,t,⟨ko,kc,kl⟩,o,c,is⟩:=x;have hn:=hok.hl;have hc:=hok.hc;have hkl:kl.length<=kc:=hok.hks.le;have hkc:kc<=maxLen:=hok.hks.cp;unfold maxLen at hc hkc;rw[Vt.m_mk,zP3,List.length_map];rw[Vt.v_mk']at *;simp only[Vt.ks,Vt.is,Vt.t]at *;have hie:decide (is.map Vt.m=[])=decide (is=[]):=decide_eq_decide.2 List.map_eq_nil_iff;rw[hie];clear hie;generalize hX:(if k=5 then decide (t=[])&&decide (kl=[]) else if k=6 then decide (t=[])&&zf9 kl is.length else(decide (kl=[])&&decide (is=[]))&&zh7 k t)=X at *;have HX:=hq hX.symm;have HP:Hq (∀(b:Bool) W',X=b->Below w.heap.size w W'->zm9 X w (.returned (.bool b)) W'):=hq (fun b W' h h2=>⟨by rw[h],h2⟩);generalize zm9 X w=PP at *;have hb0:=za0 w (.cells #[.int .i64 k,.string (st t),.slice ko kl.length kc,.slice o is.length c] 26);have HE:=hq (hE.grow hb0);have HW0:=hq (Whole.made w 26 #[.int .i64 k,.string (st t),.slice ko kl.length kc,.slice o is.length c]);have HB0:=hq hb0;clear hok hb0 hs hE hX;go_enter Tryz.func103,Tryz.ntmps103
 go_upto_region 1 with fail
 generalize w.heap.size=g at HW0;generalize (w.alloc (.cells #[.int .i64 k,.string (st t),.slice ko kl.length kc,.slice o is.length c] 26))=V0 at *;have hVg:=hq (fun wr (hb:Below V0.heap.size V0 wr)=>za1 (HW0.o.grow hb));obtain⟨c0,c1,c2,c3⟩:=hVg.o V0 (Below.refl _ _);by_cases h5:k=5
 ·have e5:(k==5)=true:=beq_iff_eq.2 h5;have HX5:=hq (HX.o.trans (if_pos h5));clear HX h5 HMB HE;by_cases h1:t=[]
  ·have e1:(t==([]:Bs))=true:=beq_iff_eq.2 h1;by_cases h2:kl=[]
   ·have e2:((kl.length:Int)==0)=true:=beq_iff_eq.2 (len_zero.1 h2);have HV:=hq (HP.o true V0 (by rw[HX5.o,decide_eq_true h1,decide_eq_true h2];rfl) HB0.o);clear HX5 HP h1 h2;go_wp2_with fail
    exact HV.o
   ·have e2:((kl.length:Int)==0)=false:=beq_eq_false_iff_ne.2 (fun h=>h2 (len_zero.2 h));have HV:=hq (HP.o false V0 (by rw[HX5.o,decide_eq_true h1,decide_eq_false h2];rfl) HB0.o);clear HX5 HP h1 h2;go_wp2_with fail
    exact HV.o
  ·have e1:(t==([]:Bs))=false:=beq_eq_false_iff_ne.2 h1;have HV:=hq (HP.o false V0 (by rw[HX5.o,decide_eq_false h1];rfl) HB0.o);clear HX5 HP h1;go_wp2_with fail
   exact HV.o
 have e5:(k==5)=false:=beq_eq_false_iff_ne.2 h5;have HX5:=hq (HX.o.trans (if_neg h5));clear HX;by_cases h6:k=6
 ·have e6:(k==6)=true:=beq_iff_eq.2 h6;have HX6:=hq (HX5.o.trans (if_pos h6));have HMC:=hq (HMB.o V0 HB0.o);clear HX5 h5 h6 HMB HE;by_cases h1:t=[]
  ·have e1:(t==([]:Bs))=true:=beq_iff_eq.2 h1;have HX7:Hq (X=zf9 kl is.length):=hq (by rw[HX6.o,decide_eq_true h1,Bool.true_and]);clear HX6 h1;generalize zf9 kl is.length=mb at *;go_wp2_with fail
   refine HMC.o.mono ?_;rintro e w2 ⟨rfl,hb2⟩;have HV:=hq (HP.o mb w2 HX7.o (za HB0.o hb2));clear HX7 HP hb2;go_wp2_with fail
   exact HV.o
  ·have e1:(t==([]:Bs))=false:=beq_eq_false_iff_ne.2 h1;have HV:=hq (HP.o false V0 (by rw[HX6.o,decide_eq_false h1];rfl) HB0.o);clear HX6 HP h1 HMC;go_wp2_with fail
   exact HV.o
 have e6:(k==6)=false:=beq_eq_false_iff_ne.2 h6;have HX6:=hq (HX5.o.trans (if_neg h6));clear HX5 h5 h6 HMB;by_cases h1:kl=[]
 case neg=>
  have e1:(0:Int)<(kl.length:Int):=by
   have:kl.length≠0:=fun h=>h1 (List.length_eq_zero_iff.1 h)
   omega
  have e1n:0<kl.length:=by omega
  have HV:=hq (HP.o false V0 (by rw[HX6.o,decide_eq_false h1];rfl) HB0.o);clear HX6 HP h1 HE;go_wp2_with fail
  exact HV.o
 have HX6':Hq (X=(decide (is=[])&&zh7 k t)):=hq (by rw[HX6.o,decide_eq_true h1,Bool.true_and]);clear HX6;subst h1;simp only[List.length_nil]at *;by_cases h2:is=[]
 case neg=>
  have e2:(0:Int)<(is.length:Int):=by
   have:is.length≠0:=fun h=>h2 (List.length_eq_zero_iff.1 h)
   omega
  have e2n:0<is.length:=by omega
  have HV:=hq (HP.o false V0 (by rw[HX6'.o,decide_eq_false h2];rfl) HB0.o);clear HX6' HP HE h2;go_wp2_with fail
  exact HV.o
 have HX7:Hq (X=zh7 k t):=hq (by rw[HX6'.o,decide_eq_true h2];rfl);clear HX6';subst h2;simp only[List.length_nil]at *;by_cases h1:k=1
 ·have f1:(k==1)=true:=beq_iff_eq.2 h1;have HV:=hq (HP.o (List.isEmpty t) V0 (by
   rw[HX7.o,zh7,if_pos h1];cases t<;>rfl) HB0.o)
  clear HX7 HP HE h1;go_wp2_with fail
  exact HV.o
 have f1:(k==1)=false:=beq_eq_false_iff_ne.2 h1;by_cases h2:k=2
 ·have f2:(k==2)=true:=beq_iff_eq.2 h2;have HX8:Hq (X=(decide (t=[116,114,117,101])||decide (t=[102,97,108,115,101]))):=hq (by rw[HX7.o,zh7,if_neg h1,if_pos h2]);clear HX7 HE h1 h2;by_cases h3:t=[116,114,117,101]
  ·have g3:(t==[116,114,117,101])=true:=beq_iff_eq.2 h3;have HV:=hq (HP.o true V0 (by rw[HX8.o,decide_eq_true h3];rfl) HB0.o);clear HX8 HP h3;go_wp2_with fail
   exact HV.o
  ·have g3:(t==[116,114,117,101])=false:=beq_eq_false_iff_ne.2 h3;have HV:=hq (HP.o (t==[102,97,108,115,101]) V0 (by
    rw[HX8.o,decide_eq_false h3];by_cases h:t=[102,97,108,115,101]<;>simp[h]) HB0.o)
   clear HX8 HP h3;go_wp2_with fail
   exact HV.o
 have f2:(k==2)=false:=beq_eq_false_iff_ne.2 h2;by_cases h3:k=3
 ·have f3:(k==3)=true:=beq_iff_eq.2 h3;have HX8:Hq (X=decM t):=hq (by rw[HX7.o,zh7,if_neg h1,if_neg h2,if_pos h3]);have HDC:=hq (zI1 t V0 HE.o.its ht);clear HX7 HE h1 h2 h3;go_wp2_with fail
  refine HDC.o.mono ?_;rintro e w2 ⟨rfl,hb2⟩;have HV:=hq (HP.o (decM t) _ HX8.o (za HB0.o (za hb2 (za0 w2 (.cells #[.bool (numT t).neg,.string (st (numT t).digits),.int .i64 (numT t).exp] 59)))));simp only[Dec.val];clear HX8 HP hb2 HDC;go_wp2_with fail
  exact HV.o
 have f3:(k==3)=false:=beq_eq_false_iff_ne.2 h3;by_cases h4:k=4
 ·have f4:(k==4)=true:=beq_iff_eq.2 h4;have HX8:Hq (X=(valid (st t)).2):=hq (by rw[HX7.o,zh7,if_neg h1,if_neg h2,if_neg h3,if_pos h4]);have HVC:=hq (zs3 (st t) V0 HE.o.tab (by rw[za8];unfold maxLen;omega));clear HX7 HE h1 h2 h3 h4;generalize valid (st t)=vv at *;obtain⟨v1,v2⟩:=vv;simp only at HX8 HVC;go_wp2_with fail
  refine HVC.o.mono ?_;rintro e w2 ⟨rfl,hb2⟩;have HV:=hq (HP.o v2 w2 HX8.o (za HB0.o hb2));clear HX8 HP hb2 HVC;go_wp2_with fail
  exact HV.o
 have f4:(k==4)=false:=beq_eq_false_iff_ne.2 h4;by_cases h7:k=7
 case neg=>
  have f7:(k==7)=false:=beq_eq_false_iff_ne.2 h7;have HV:=hq (HP.o false V0 (by rw[HX7.o,zh7,if_neg h1,if_neg h2,if_neg h3,if_neg h4,if_neg h7]) HB0.o);clear HX7 HE h1 h2 h3 h4 h7 HP;go_wp2_with fail
  exact HV.o
 case pos=>
  have f7:(k==7)=true:=beq_iff_eq.2 h7;have HX8:Hq (X=(decM t&&((intM (numT t)).2&&decide (0<=(intM (numT t)).1)))):=hq (by rw[HX7.o,zh7,if_neg h1,if_neg h2,if_neg h3,if_neg h4,if_pos h7];rfl);have HDC:=hq (zI1 t V0 HE.o.its ht);obtain⟨hbd1,hbd2⟩:=numT_bd t;unfold DecP at HDC;generalize numT t=d at *;obtain⟨neg,D,E⟩:=d;simp only[Dec.val]at *;have HIC:=hq (fun W (hb:Below V0.heap.size V0 W)=>int_any neg D E W (by omega) (by omega) (HE.o.grow hb).err);unfold IntPost at HIC;generalize decM t=dm at *;generalize intM ⟨neg,D,E⟩=im at *;obtain⟨i1,i2⟩:=im;simp only at HX8 HIC;clear HX7 HE h1 h2 h3 h4 h7;go_wp2_with fail
  refine HDC.o.mono ?_;rintro e w2 ⟨rfl,hb2⟩;have hb3:=za hb2 (za0 w2 (.cells #[.bool neg,.string (st D),.int .i64 E] 59));obtain⟨n0,n1,n2⟩:=za2 (Whole.made w2 59 #[.bool neg,.string (st D),.int .i64 E]);have HB3:=hq hb3;clear hb2 hb3 HDC;go_upto_region 21 with fail
  generalize (w2.alloc (.cells #[.bool neg,.string (st D),.int .i64 E] 59))=W3 at *;go_wp2_with fail
  refine(HIC.o W3 HB3.o).mono ?_;rintro e w4 ⟨rfl,hb4⟩;have HB4:=hq (za HB0.o (za HB3.o hb4));clear hb4 HIC n0 n1 n2;cases dm with
  |false=>
   have HV:=hq (HP.o false w4 HX8.o HB4.o);clear HX8 HP;go_wp2_with fail
   exact HV.o
  |true=>
   cases i2 with
   |false=>
    have HV:=hq (HP.o false w4 HX8.o HB4.o);clear HX8 HP;go_wp2_with fail
    exact HV.o
   |true=>
    have HV:=hq (HP.o (decide (0<=i1)) w4 (by rw[HX8.o];simp) HB4.o);clear HX8 HP;go_wp2_with fail
    all_goals exact HV.o
def Lim(v:Vl):Prop:=v.t.length<=1048576/\ ∀k∈v.ks,k.length<=1048576
structure FitI(w0:World)(g h A:Nat)(pre:List (Vl×Nat))(W:World):Prop where
 bl:Below w0.heap.size w0 W
 cn:Whole W g 3 #[.int .i64 (pre.length:Int)]
 fn:Whole W h 40 #[.func (.func A) #[] #[]]
theorem zQ2(w0:World)(g h A:Nat)(hg:w0.heap.size<=g):Asks w0 (fun k=>k=g) (g+1) (FitI w0 g h A) where
 c0 k hk:=by subst hk;omega
 below pre W hI:=⟨hI.bl,hI.cn.lt⟩
 grow pre W W' hI hb:=⟨hI.bl.trans (hb.mono hI.bl.size),hI.cn.grow hb,hI.fn.grow hb⟩
theorem FitI.step {w0 W V0:World} {g h A:Nat} {pre:List (Vl×Nat)} (hI:FitI w0 g h A pre W)(hg0:w0.heap.size<=g)(hgh:g≠h)(hb:Below W.heap.size W V0)(y:Vl×Nat) {m:Int} (hm:m=(pre.length:Int)+1):
 FitI w0 g h A (pre++[y]) (V0.setCell ⟨g,0,none⟩ (.int .i64 m))/\Kp (fun k=>k=g) W (V0.setCell ⟨g,0,none⟩ (.int .i64 m)):=by
 have h1:=CntI.step (w0:=w0) ⟨hI.bl,hI.cn⟩ hg0 hb y hm;exact⟨⟨h1.1.1,h1.1.2,(hI.fn.grow hb).far (p:=⟨g,0,none⟩) (fun e=>hgh e.symm) _⟩,h1.2⟩
theorem fits1_any(w0:World)(hE0:Env w0)(g h A:Nat)(hg0:w0.heap.size<=g)(hgh:g≠h)(askM:Vl->Bool)(hca: ∀(args:Array Value) (w:World),(callFunc A args).run Tryz.prog w= .ok (.enter A args) w)
 (hask: ∀(x:Vt) (W:World),Calls Tryz.prog A #[x.v] W (zm9 (askM x.m) W))
 (x:Vt) (d:Nat) (pre:List (Vl×Nat)) (W:World) (hok:x.Ok w0) (hlim:x.m.All Lim) (hI:FitI w0 g h A pre W) (hd:d<=4611686018427387904) (hl:pre.length<4611686018427387904):
 Calls Tryz.prog 102 #[x.v,.int .i64 (d:Int),.pointer (some ⟨g,0,none⟩),.pointer (some ⟨h,0,none⟩)] W (zx3 (fun k=>k=g) (FitI w0 g h A) (decide (pre.length+1<=4096)&&(decide (d<=32)&&(zm8 x.m&&askM x.m))) (pre++[(x.m,d)]) W):=by
 have HP:Hq (∀(b:Bool) W',b=(decide ((pre.length:Int)+1<=4096)&&(decide ((d:Int)<=32)&&(zm8 x.m&&askM x.m)))->FitI w0 g h A (pre++[(x.m,d)]) W'->Kp (fun k=>k=g) W W'->zx3 (fun k=>k=g) (FitI w0 g h A) (decide (pre.length+1<=4096)&&(decide (d<=32)&&(zm8 x.m&&askM x.m))) (pre++[(x.m,d)]) W (.returned (.bool b)) W'):=hq (fun b W' h h1 h2=>by
  have e:decide ((pre.length:Int)+1<=4096)=decide (pre.length+1<=4096):=decide_eq_decide.2 (by omega);have e2:decide ((d:Int)<=32)=decide (d<=32):=decide_eq_decide.2 (by omega);rw[h,e,e2];exact⟨rfl,h1,h2⟩)
 generalize zx3 (fun k=>k=g) (FitI w0 g h A) (decide (pre.length+1<=4096)&&(decide (d<=32)&&(zm8 x.m&&askM x.m))) (pre++[(x.m,d)]) W=PP at *;have hlm:=hlim.here;have HND:=hq (fun V (hb:Below w0.heap.size w0 V)=>node_any x V (hE0.grow hb) (hok.grow hb) (by cases x;exact hlm.1) (by cases x;exact hlm.2));have HAS:=hq (fun V=>hask x V);have HSTEP:=hq (fun V0 (hb:Below W.heap.size W V0)=>hI.step hg0 hgh hb (x.m,d) (m:=(pre.length:Int)+1) rfl);have hb0:=za0 W (.cells #[.int .i64 x.k,.string (st x.t),x.ks.v,x.row] 26);have HBX:=hq (Whole.made W 26 #[.int .i64 x.k,.string (st x.t),x.ks.v,x.row]);have HGL:=hq hI.cn.lt;have HB0:=hq hb0;have c0:=zD5 (hI.cn.grow hb0);have hf:=(hI.cn.grow hb0).free 0;clear hI hb0 hlim hok hE0 hask hlm;unfold Vt.v at *;go_enter Tryz.func102,Tryz.ntmps102
 go_upto_region 1 with fail
 generalize (W.alloc (.cells #[.int .i64 x.k,.string (st x.t),x.ks.v,x.row] 26))=V0 at *;go_upto_region 2 with fail
 obtain⟨hI1,hk1⟩:=HSTEP.o V0 HB0.o;have HBX1:=hq (HBX.o.far (p:=⟨g,0,none⟩) (show W.heap.size≠g by have:=HGL.o;omega) (.int .i64 ((pre.length:Int)+1)));have d0:=zD5 hI1.cn;rw[show (((pre++[(x.m,d)]).length:Nat):Int)=(pre.length:Int)+1 by rw[List.length_append,List.length_singleton];omega]at d0;have d1:=zD5 hI1.fn;have HI1:=hq hI1;have HK1:=hq hk1;clear hI1 hk1 c0 hf HSTEP HBX HB0 HGL;generalize V0.setCell ⟨g,0,none⟩ (.int .i64 ((pre.length:Int)+1))=V1 at *;obtain⟨b0,b1,b2,b3⟩:=za1 HBX1.o;by_cases h1:(pre.length:Int)+1<=4096
 case neg=>
  have hz:decide ((pre.length:Int)+1<=4096)=false:=decide_eq_false h1;have HV:=hq (HP.o false V1 (by rw[hz];rfl) HI1.o HK1.o);clear HP HND HAS;go_wp2_with fail
  exact HV.o
 have hz:decide ((pre.length:Int)+1<=4096)=true:=decide_eq_true h1;by_cases h2:(d:Int)<=32
 case neg=>
  have hz2:decide ((d:Int)<=32)=false:=decide_eq_false h2;have HV:=hq (HP.o false V1 (by rw[hz,hz2];rfl) HI1.o HK1.o);clear HP HND HAS;go_wp2_with fail
  exact HV.o
 have hz2:decide ((d:Int)<=32)=true:=decide_eq_true h2;have HP1:=hq (fun b W' (h:b=(zm8 x.m&&askM x.m)) h3 h4=>HP.o b W' (by rw[hz,hz2,h];rfl) h3 h4);have HNC:=hq (HND.o V1 HI1.o.bl);clear HP HND;generalize zm8 x.m=nm at *;generalize askM x.m=am at *;go_wp2_with fail
 refine HNC.o.mono ?_;rintro e w2 ⟨rfl,hb2⟩;have HI2:=hq ((zQ2 w0 g h A hg0).grow _ _ _ HI1.o hb2);have HK2:=hq (HK1.o.trans (Kp.of hb2));obtain⟨p0,p1,p2,p3⟩:=za1 (HBX1.o.grow hb2);have q1:=zD5 (HI1.o.fn.grow hb2);clear hb2 HNC b0 b1 b2 b3 d0 d1;cases nm with
 |false=>
  have HV:=hq (HP1.o false w2 rfl HI2.o HK2.o);clear HP1 HAS;go_wp2_with fail
  exact HV.o
 |true=>
  go_wp2_with fail
  refine(HAS.o w2).mono ?_;rintro e w3 ⟨rfl,hb3⟩;have HV:=hq (HP1.o am w3 rfl ((zQ2 w0 g h A hg0).grow _ _ _ HI2.o hb3) (HK2.o.trans (Kp.of hb3)));clear HP1 HAS hb3;go_wp2_with fail
  exact HV.o
theorem enter_fits1(args:Array Value)(w:World):(callFunc 102 args).run Tryz.prog w= .ok (.enter 102 args) w:=by kernel_rfl
theorem enter_right1(args:Array Value)(w:World):(callFunc 58 args).run Tryz.prog w= .ok (.enter 58 args) w:=by kernel_rfl
theorem fits_any(A:Nat)(askM:Vl->Bool)(hca: ∀(args:Array Value) (w:World),(callFunc A args).run Tryz.prog w= .ok (.enter A args) w)(hask: ∀(x:Vt) (W:World),Calls Tryz.prog A #[x.v] W (zm9 (askM x.m) W))
 (x:Vt) (w:World) (hE:Env w) (hok:x.Ok w) (hlim:x.m.All Lim) (hs:x.m.size<=1000000000):
 Calls Tryz.prog 57 #[x.v,.func (.func A) #[] #[]] w (zm9 (decide (x.m.size<=4096)&&(decide (x.m.depth<=32)&&x.m.allB (fun v=>zm8 v&&askM v))) w):=by
 have HP:Hq (∀(b:Bool) W',b=(decide (x.m.size<=4096)&&(decide (x.m.depth<=32)&&x.m.allB (fun v=>zm8 v&&askM v)))->Below w.heap.size w W'->zm9 (decide (x.m.size<=4096)&&(decide (x.m.depth<=32)&&x.m.allB (fun v=>zm8 v&&askM v))) w (.returned (.bool b)) W'):=hq (fun b W' h h2=>⟨by rw[h],h2⟩);have hds:=x.m.depth_size;have HGV:Hq ((goV (fun pre y=>decide (pre.length+1<=4096)&&(decide (y.2<=32)&&(zm8 y.1&&askM y.1))) [] (x.m.visits 1)).1=(decide (x.m.size<=4096)&&(decide (x.m.depth<=32)&&x.m.allB (fun v=>zm8 v&&askM v)))):=hq (by
  have h:=goV_fits (fun v=>zm8 v&&askM v) 4096 32 x.m 1;rw[h];have e:decide (1+x.m.depth<=32+1)=decide (x.m.depth<=32):=decide_eq_decide.2 (by omega);rw[e])
 generalize zm9 (decide (x.m.size<=4096)&&(decide (x.m.depth<=32)&&x.m.allB (fun v=>zm8 v&&askM v))) w=PP at *;have hb0:=za0 w (.cells #[.int .i64 x.k,.string (st x.t),x.ks.v,x.row] 26);have hw0:=Whole.made w 26 #[.int .i64 x.k,.string (st x.t),x.ks.v,x.row];have hw1:=Whole.made (w.alloc (.cells #[.int .i64 x.k,.string (st x.t),x.ks.v,x.row] 26)) 40 #[.func (.func A) #[] #[]];have hb1:=za hb0 (za0 (w.alloc (.cells #[.int .i64 x.k,.string (st x.t),x.ks.v,x.row] 26)) (.cells #[.func (.func A) #[] #[]] 40));have hw2:=hw0.alloc (.cells #[.func (.func A) #[] #[]] 40);rw[World.size_alloc]at hw1;have HOK:=hq (hok.grow hb1);have HE:=hq (hE.grow hb1);unfold Vt.v;go_enter Tryz.func57,Tryz.ntmps57
 go_upto_region 1 with fail
 generalize ((w.alloc (.cells #[.int .i64 x.k,.string (st x.t),x.ks.v,x.row] 26)).alloc (.cells #[.func (.func A) #[] #[]] 40))=V0 at *;clear hb0 hw0 hok hE;go_upto_region 2 with fail
 have hb2:=za0 V0 (.cells #[.int .i64 0] 3);have hI1:FitI V0 V0.heap.size (w.heap.size+1) A [] (V0.alloc (.cells #[.int .i64 0] 3)):=⟨hb2,Whole.made V0 3 #[.int .i64 0],hw1.grow hb2⟩;obtain⟨c0,c1,c2,c3⟩:=za1 (hw2.grow hb2);have hne:V0.heap.size≠w.heap.size+1:=by have:=hw1.lt;omega
 have HC:=hq (walk_any Lim (zQ2 V0 V0.heap.size (w.heap.size+1) A (Nat.le_refl _)) (fun pre y=>decide (pre.length+1<=4096)&&(decide (y.2<=32)&&(zm8 y.1&&askM y.1))) enter_fits1 (caps:= #[.pointer (some ⟨V0.heap.size,0,none⟩),.pointer (some ⟨w.heap.size+1,0,none⟩)]) (fun y d pre W hy hlm hI hd hl=>fits1_any V0 HE.o _ _ A (Nat.le_refl _) hne askM hca hask y d pre W hy hlm hI hd hl) x 1 [] _ HOK.o hlim hI1 (by omega) (by simp only[List.length_nil];omega));rw[HGV.o]at HC;have HB1:=hq hb1;clear hI1 hb1 hb2 hw1 hw2 HOK HE hlim hne HGV hask hca;generalize hR:(decide (x.m.size<=4096)&&(decide (x.m.depth<=32)&&x.m.allB (fun v=>zm8 v&&askM v)))=R at *;clear hR;generalize hg:V0.heap.size=g at *;have hgs:g<=V0.heap.size:=by omega
 clear hg;generalize (V0.alloc (.cells #[.int .i64 0] 3))=V1 at *;go_wp2_with fail
 refine HC.o.mono ?_;rintro e w2 ⟨rfl,hI2,hk2⟩;have HV:=hq (HP.o R w2 rfl (HB1.o.trans (hI2.bl.mono HB1.o.size)));clear hk2 hI2 HC HP HB1;go_wp2_with fail
 exact HV.o
theorem right1_any(x:Vt)(W:World):Calls Tryz.prog 58 #[x.v] W (zm9 (decide (x.m.k≠7)) W):=by
 have hxk:x.m.k=x.k:=by cases x;rw[Vt.m_mk];rfl
 have hb0:=za0 W (.cells #[.int .i64 x.k,.string (st x.t),x.ks.v,x.row] 26);have hw0:=Whole.made W 26 #[.int .i64 x.k,.string (st x.t),x.ks.v,x.row];have HV:=hq (show zm9 (decide (x.m.k≠7)) W (.returned (.bool (x.k !=7))) (W.alloc (.cells #[.int .i64 x.k,.string (st x.t),x.ks.v,x.row] 26)) from⟨by
  rw[hxk];by_cases h:x.k=7<;>simp[h],hb0⟩)
 generalize zm9 (decide (x.m.k≠7)) W=PP at *;clear hb0 hxk;obtain⟨c0,c1,c2,c3⟩:=za1 hw0;unfold Vt.v;go_enter Tryz.func58,Tryz.ntmps58
 go_upto_region 1 with fail
 generalize (W.alloc (.cells #[.int .i64 x.k,.string (st x.t),x.ks.v,x.row] 26))=V0 at *;by_cases h:x.k=7
 ·have e:(x.k !=7)=false:=by rw[bne,beq_iff_eq.2 h];rfl
  rw[e]at HV;clear h;go_wp2_with fail
  exact HV.o
 ·have e:(x.k !=7)=true:=bne_iff_ne.2 h;rw[e]at HV;clear h;go_wp2_with fail
  exact HV.o
theorem vright_any(x:Vt)(w:World)(hE:Env w)(hok:x.Ok w)(hlim:x.m.All Lim)(hs:x.m.size<=1000000000):Calls Tryz.prog 25 #[x.v] w (zm9 (zg2 x.m) w):=by
 have hb0:=za0 w (.cells #[.int .i64 x.k,.string (st x.t),x.ks.v,x.row] 26);have hw0:=Whole.made w 26 #[.int .i64 x.k,.string (st x.t),x.ks.v,x.row];have HC:=hq (fits_any _ (fun v=>decide (v.k≠7)) enter_right1 (fun y W=>right1_any y W) x _ (hE.grow hb0) (hok.grow hb0) hlim hs);have e:(decide (x.m.size<=4096)&&(decide (x.m.depth<=32)&&x.m.allB (fun v=>zm8 v&&decide (v.k≠7))))=zg2 x.m:=rfl;rw[e]at HC;have HP:Hq (∀W',Below w.heap.size w W'->zm9 (zg2 x.m) w (.returned (.bool (zg2 x.m))) W'):=hq (fun W' h=>⟨rfl,h⟩);generalize zm9 (zg2 x.m) w=PP at *;generalize zg2 x.m=R at *;have HB0:=hq hb0;clear hE hok hb0 hlim e;obtain⟨c0,c1,c2,c3⟩:=za1 hw0;unfold Vt.v at *;go_enter Tryz.func25,Tryz.ntmps25
 go_upto_region 1 with fail
 generalize (w.alloc (.cells #[.int .i64 x.k,.string (st x.t),x.ks.v,x.row] 26))=V0 at *;go_wp2_with fail
 refine HC.o.mono ?_;rintro e w2 ⟨rfl,hb2⟩;have HV:=hq (HP.o w2 (za HB0.o hb2));clear hb2 HC HP HB0;go_wp2_with fail
 exact HV.o
end Go.Proofs.YtkafjblfjdpdaaaGreatDoor
namespace Go.Proofs.YtkafjblfjdpdaaaGreatDoor
open Go.RowKit Go.Sort Go.Shelf
def ordN(ks:List Bs)(n:Nat):List Nat:=((List.finRange n).mergeSort (fun x y=> !ltOf (cfK ks n) y x)).map Fin.val
def ordK(v:Vl):List Nat:=if v.k=6 then ordN v.ks v.is.length else List.range v.is.length
def natE {n:Nat} (i:Fin n):Value:= .int .i64 (i.val:Int)
def NatsIn(w:World)(o:Option Addr)(l:List Nat):Prop:= ∀i (h:i<l.length),∃b f,o=some ⟨b,f,none⟩/\w.cell? ⟨b,f+i,none⟩=some (.int .i64 (l[i]:Int))
theorem NatsIn.grow {w w':World} {o:Option Addr} {l:List Nat} (h:NatsIn w o l)(hb:Below w.heap.size w w'):NatsIn w' o l:=fun i hi=>by
 obtain⟨b,f,h1,h2⟩:=h i hi;exact⟨b,f,h1,(hb.cell (p:=⟨b,f+i,none⟩) (zn5 h2)).trans h2⟩
def ItemsIn(w:World)(o:Option Addr)(l:List Vt):Prop:= ∀i (h:i<l.length),∃b f,o=some ⟨b,f,none⟩/\ItemAt w b (f+i*4) l[i]
theorem ItemsIn.grow {w w':World} {o:Option Addr} {l:List Vt} (h:ItemsIn w o l)(hb:Below w.heap.size w w'):ItemsIn w' o l:=fun i hi=>by
 obtain⟨b,f,h1,h2⟩:=h i hi;exact⟨b,f,h1,h2.grow hb⟩
def cmpS(v w:Vl):Int:=cmpV (zN8 v) (zN8 w)
def Good(v:Vl):Prop:=v.allB zm8=true
theorem Good.items {k:Int} {t:Bs} {ks:List Bs} {is:List Vl} (h:Good (.mk k t ks is)): ∀x∈is,Good x:=by
 unfold Good at h;simp only[Vl.allB,Bool.and_eq_true]at h;exact Vl.allsB_iff.1 h.2
theorem Good.node {k:Int} {t:Bs} {ks:List Bs} {is:List Vl} (h:Good (.mk k t ks is)):zm8 (.mk k t ks is)=true:=by
 unfold Good at h;simp only[Vl.allB,Bool.and_eq_true]at h;exact h.1
theorem Good.obj {k:Int} {t:Bs} {ks:List Bs} {is:List Vl} (h:Good (.mk k t ks is))(h6:k=6):ks.length=is.length/\ks.length<=4096/\ks.Nodup:=by
 have h1:=h.node;rw[zP3,if_neg (by omega),if_pos h6]at h1;unfold zf9 at h1;simp only[Bool.and_eq_true,decide_eq_true_eq]at h1;exact⟨h1.2.1,h1.2.2.1,h1.2.2.2.2⟩
end Go.Proofs.YtkafjblfjdpdaaaGreatDoor
namespace Go.Proofs.YtkafjblfjdpdaaaGreatDoor
theorem Vl.sizes_map {f:Vl->Vl}: ∀ {l:List Vl},(∀x∈l,(f x).size=x.size)->Vl.sizes (l.map f)=Vl.sizes l
 | [],_=>rfl
 |v::l,h=>by simp only[List.map_cons,Vl.sizes,h v List.mem_cons_self,Vl.sizes_map (l:=l) (fun x hx=>h x (List.mem_cons_of_mem _ hx))]
end Go.Proofs.YtkafjblfjdpdaaaGreatDoor
