/-
  WALK of the document's own answer for layer 9: a leaf's node.
  WALK of the document's own answer for layer 9: a list's node, and any.
  WALK of the document's own answer for layer 9: a node, whatever it is; Read.
  WALK of the document's own answer for layer 9: Read.
-/
import Derived.Test.YtkafjblfjdpdaaaGreatDoorPrP
import Derived.Test.YtkafjblfjdpdaaaGreatDoorJpa
set_option maxHeartbeats 64000000
set_option maxRecDepth 1000000
namespace Go.Proofs.YtkafjblfjdpdaaaGreatDoor
open Go.RowKit
structure DnI(W:World)(gd gr gn gv:Nat)(dc cn vc:Array Value)(w:World):Prop where
 b:Below W.heap.size W w
 hd:Whole w gd 78 dc
 hr:Whole w gr 26 #[.int .i64 0,.string ⟨#[]⟩,.slice none 0 0,.slice none 0 0]
 hn:Whole w gn 149 cn
 hw:Whole w gv 26 vc
 lr:W.heap.size<=gr
 lv:W.heap.size<=gv
 nd:gd≠gv
 nr:gr≠gv
 nn:gn≠gv
theorem DnI.grow {W w w':World} {gd gr gn gv:Nat} {dc cn vc:Array Value} (h:DnI W gd gr gn gv dc cn vc w)(hb:Below w.heap.size w w'):DnI W gd gr gn gv dc cn vc w':=
 ⟨h.b.trans (hb.mono h.b.size),h.hd.grow hb,h.hr.grow hb,h.hn.grow hb,h.hw.grow hb,h.lr,h.lv,h.nd,h.nr,h.nn⟩
theorem DnI.text {W w:World} {gd gr gn gv:Nat} {dc cn:Array Value} {a b c d:Value} (h:DnI W gd gr gn gv dc cn #[a,b,c,d] w)(u:Value):DnI W gd gr gn gv dc cn #[a,u,c,d] (w.setCell ⟨gv,1,none⟩ u):=
 ⟨zd9 h.b h.lv _ _,h.hd.far (p:=⟨gv,1,none⟩) h.nd u,h.hr.far (p:=⟨gv,1,none⟩) h.nr u,h.hn.far (p:=⟨gv,1,none⟩) h.nn u,h.hw.put 1 u,h.lr,h.lv,h.nd,h.nr,h.nn⟩
def zl6(v:Vl)(W:World)(e:Ending)(W':World):Prop:=
 ∃y:Vt,e= .returned y.v/\y.Own 26 9 W.heap.size (fun _=>True) W'/\y.m=v/\Below W.heap.size W W'
theorem rdocleaf_any(s:ByteArray)(nv:List NV)(gN cN:Nat)(k:Nat)(hk:k<nv.length)(hcN:nv.length<=cN/\cN<=9223372036854775807/\nv.length<=4096)(W:World)(kd na nb ka kb nk:Nat)(ok:Option Addr)(ck:Nat)(po:Option Addr)(pn pc:Nat)(HND:Hq (∀V,Below W.heap.size W V->V.cell? ⟨gN,k*7,none⟩=some (.int .i64 (kd:Int))/\V.cell? ⟨gN,k*7+1,none⟩=some (.int .i64 (na:Int))/\V.cell? ⟨gN,k*7+2,none⟩=some (.int .i64 (nb:Int))/\V.cell? ⟨gN,k*7+3,none⟩=some (.int .i64 (ka:Int))/\V.cell? ⟨gN,k*7+4,none⟩=some (.int .i64 (kb:Int))/\V.cell? ⟨gN,k*7+5,none⟩=some (.slice ok nk ck)/\V.cell? ⟨gN,k*7+6,none⟩=some (.slice po pn pc)))(hnk:nk=0)(hs:s.size<=65536)(t:Bs)(hT:LeafT kd (s.extract na nb) t)(hab:na<=nb/\nb<=s.size):
 Calls Tryz.prog 76 #[.agg #[.string s,.slice (some ⟨gN,0,none⟩) nv.length cN],.int .i64 (k:Int)] W (zl6 (.mk (kd:Int) t [] []) W):=by
 obtain⟨hc1,hc2,hc3⟩:=hcN;subst hnk;have HSL:=hq (fun V=>zA0 s (.slice (some ⟨gN,0,none⟩) nv.length cN) ⟨_,_,_,rfl⟩ (na:Int) (nb:Int) V (by unfold maxLen;omega));rw[zD3 hab.1 hab.2]at HSL;have hxs:(s.extract na nb).size<=65536:=by rw[ByteArray.size_extract];omega
 have HPA:=hq (fun V=>zA1 (s.extract na nb).data.toList V (by rw[Array.length_toList];exact Nat.le_trans hxs (by decide)));have hst0: ∀x:ByteArray,st x.data.toList=x:=fun x=>zo7 (by simp)
 have HST:=hq (hst0 (s.extract na nb));clear hst0;rw[HST.o]at HPA;have HTX:Hq (∀d:Dec,d.right=true-> ∀V,Calls Tryz.prog 45 #[.agg #[.bool d.neg,.string (st d.digits),.int .i64 d.exp]] V fun e w'=>e= .returned (.string (st (zk9 d)))/\Below V.heap.size V w'):=hq (fun d hr V=>by
  have hbd:= @zm2 d.neg d.digits d.exp hr;exact rtext_any d.neg d.digits d.exp V (by omega) (by omega))
 have HUN:=hq (fun V=>zp (s.extract na nb) V (Nat.le_trans hxs (by decide)));have HP:Hq (∀W',Below W.heap.size W W'->zl6 (.mk (kd:Int) t [] []) W (.returned (.agg #[.int .i64 (kd:Int),.string (st t),.slice none 0 0,.slice none 0 0])) W'):=hq (fun W' h=>⟨.mk (kd:Int) t ⟨none,0,[]⟩ none 0 [],rfl,zP6 _ _ _ _,by rw[Vt.m_mk];rfl,h⟩);generalize zl6 (.mk (kd:Int) t [] []) W=PP at *;generalize hx:s.extract na nb=x at *;clear hx hab hs;have HB0:=hq (za0 W (.cells #[.string s,.slice (some ⟨gN,0,none⟩) nv.length cN] 78));have HD0:=hq (Whole.made W 78 #[.string s,.slice (some ⟨gN,0,none⟩) nv.length cN]);have hz0:Hq ((W.alloc (.cells #[.string s,.slice (some ⟨gN,0,none⟩) nv.length cN] 78)).heap.size=W.heap.size+1):=hq (World.size_alloc _ _);have hk0: ¬(k:Int)<0:=by omega
 have hkl:(k:Int)<(nv.length:Int):=by omega
 go_enter Tryz.func76,Tryz.ntmps76
 go_upto_region 1 with fail
 generalize (W.alloc (.cells #[.string s,.slice (some ⟨gN,0,none⟩) nv.length cN] 78))=W1 at *;have HB1:=hq (HB0.o.alloc HB0.o.size (.cells #[.int .i64 0,.string ⟨#[]⟩,.slice none 0 0,.slice none 0 0] 26));have HD1:=hq (HD0.o.alloc (.cells #[.int .i64 0,.string ⟨#[]⟩,.slice none 0 0,.slice none 0 0] 26));have HR1:=hq (Whole.made W1 26 #[.int .i64 0,.string ⟨#[]⟩,.slice none 0 0,.slice none 0 0]);rw[hz0.o]at HR1;generalize (W1.alloc (.cells #[.int .i64 0,.string ⟨#[]⟩,.slice none 0 0,.slice none 0 0] 26))=W2 at *;have d1:=HD1.o.at_ 1;obtain⟨n0,n1,n2,n3,n4,n5,n6⟩:=HND.o W2 HB1.o;go_upto_region 2 with fail
 have hb2:=za0 W2 (.cells #[.int .i64 (kd:Int),.int .i64 (na:Int),.int .i64 (nb:Int),.int .i64 (ka:Int),.int .i64 (kb:Int),.slice ok 0 ck,.slice po pn pc] 149);have HB2:=hq (HB1.o.alloc HB1.o.size (.cells #[.int .i64 (kd:Int),.int .i64 (na:Int),.int .i64 (nb:Int),.int .i64 (ka:Int),.int .i64 (kb:Int),.slice ok 0 ck,.slice po pn pc] 149));have HD2:=hq (HD1.o.grow hb2);have HR2:=hq (HR1.o.grow hb2);have HN2:=hq (Whole.made W2 149 #[.int .i64 (kd:Int),.int .i64 (na:Int),.int .i64 (nb:Int),.int .i64 (ka:Int),.int .i64 (kb:Int),.slice ok 0 ck,.slice po pn pc]);have hln:W.heap.size+1<W2.heap.size:=HR1.o.lt;clear d1 n0 n1 n2 n3 n4 n5 n6 HB0 HD0 HB1 HD1 HR1 hz0;generalize (W2.alloc (.cells #[.int .i64 (kd:Int),.int .i64 (na:Int),.int .i64 (nb:Int),.int .i64 (ka:Int),.int .i64 (kb:Int),.slice ok 0 ck,.slice po pn pc] 149))=W3 at *;generalize W2.heap.size=gn at *;have d0:=HD2.o.at_ 0;have d1:=HD2.o.at_ 1;obtain⟨n0,n1,n2,n3,n4,n5,n6⟩:=za9 HN2.o;go_wp2_with fail
 refine(HSL.o W3).mono ?_;rintro e W4 ⟨rfl,hb4⟩;have HN4:=hq (HN2.o.grow hb4);have hgn4:gn<W4.heap.size:=HN4.o.lt;clear d0 d1 n0 n1 n2 n3 n4 n5 n6 HSL;obtain⟨n0,n1,n2,n3,n4,n5,n6⟩:=za9 HN4.o;go_upto_region 4 with fail
 have HI:Hq (DnI W W.heap.size (W.heap.size+1) gn W4.heap.size #[.string s,.slice (some ⟨gN,0,none⟩) nv.length cN] #[.int .i64 (kd:Int),.int .i64 (na:Int),.int .i64 (nb:Int),.int .i64 (ka:Int),.int .i64 (kb:Int),.slice ok 0 ck,.slice po pn pc] #[.int .i64 (kd:Int),.string ⟨#[]⟩,.slice none 0 0,.slice none 0 0] (W4.alloc (.cells #[.int .i64 (kd:Int),.string ⟨#[]⟩,.slice none 0 0,.slice none 0 0] 26))):=
  hq ⟨(HB2.o.trans (hb4.mono HB2.o.size)).alloc (HB2.o.trans (hb4.mono HB2.o.size)).size _,(HD2.o.grow hb4).alloc _,(HR2.o.grow hb4).alloc _,HN4.o.alloc _,Whole.made _ _ _,Nat.le_succ _,by omega,by omega,by omega,by omega⟩
 clear n0 n1 n2 n3 n4 n5 n6 HN4 HN2 HR2 HD2 HB2 hb4 hb2;generalize (W4.alloc (.cells #[.int .i64 (kd:Int),.string ⟨#[]⟩,.slice none 0 0,.slice none 0 0] 26))=w at *;obtain⟨gv,HGV⟩: ∃g,Hq (W4.heap.size=g):=⟨_,hq rfl⟩;rw[HGV.o]at HI;rw[HGV.o];obtain⟨gd,HGD⟩: ∃g,Hq (W.heap.size=g):=⟨_,hq rfl⟩;obtain⟨gr,HGR⟩: ∃g,Hq (W.heap.size+1=g):=⟨_,hq rfl⟩;rw[HGR.o,HGD.o]at HI;rw[HGR.o,HGD.o];clear HGV hgn4 hln;have HPUT:=hq (fun V (h:Below W.heap.size W V) a b c d=>zg5 h (show W.heap.size<=gr by have:=HGR.o;omega) a b c d);rcases hT with ⟨rfl,rfl⟩|⟨rfl,rfl⟩|⟨rfl,h1,rfl⟩|⟨rfl,h1,rfl⟩
 ·have HJ:=HI;clear HPA HTX HUN HI HND;obtain⟨n0,n1,n2,n3,n4,n5,n6⟩:=za9 HJ.o.hn;obtain⟨y0,y1,y2,y3⟩:=za1 HJ.o.hw;have g1:=HJ.o.hw.free 1;go_wp2_with fail
  clear n0 n1 n2 n3 n4 n5 n6 y0 y1 y2 y3 g1
  go_loopw [10,11,12,13] (fun i _ _ _ wr=>i= .int .i64 0/\Hq (DnI W gd gr gn gv #[.string s,.slice (some ⟨gN,0,none⟩) nv.length cN] #[.int .i64 1,.int .i64 (na:Int),.int .i64 (nb:Int),.int .i64 (ka:Int),.int .i64 (kb:Int),.slice ok 0 ck,.slice po pn pc] #[.int .i64 1,.string ⟨#[]⟩,.slice none 0 0,.slice none 0 0] wr)) (fun _ _ _ _ _=>0)
  case atStart=>exact⟨rfl,HJ⟩
  case round=>
   obtain⟨rfl,HK⟩:=hrel;clear HJ;obtain⟨n0,n1,n2,n3,n4,n5,n6⟩:=za9 HK.o.hn;obtain⟨z0,z1,z2,z3⟩:=za1 HK.o.hr;obtain⟨y0,y1,y2,y3⟩:=za1 HK.o.hw;have f0:=HK.o.hr.free 0;have f1:=HK.o.hr.free 1;have f2:=HK.o.hr.free 2;have f3:=HK.o.hr.free 3;have HV:=hq (HP.o _ (HPUT.o _ HK.o.b (.int .i64 1) (.string ⟨#[]⟩) (.slice none 0 0) (.slice none 0 0)));clear HP HPUT HK;go_wp2_with fail
   refine bodyPost_ret (v:= .agg #[.int .i64 1,.string ⟨#[]⟩,.slice none 0 0,.slice none 0 0]) ?_ rfl HV.o;simp[results,Tryz.results76,go_sem,z0,z1,z2,z3]
 ·rw[show st x.data.toList=x from zo7 (by simp)]at HP;have HJ:=hq (HI.o.text (.string x));clear HPA HTX HUN HND;obtain⟨n0,n1,n2,n3,n4,n5,n6⟩:=za9 HI.o.hn;obtain⟨y0,y1,y2,y3⟩:=za1 HI.o.hw;have g1:=HI.o.hw.free 1;clear HI;go_wp2_with fail
  clear n0 n1 n2 n3 n4 n5 n6 y0 y1 y2 y3 g1
  go_loopw [10,11,12,13] (fun i _ _ _ wr=>i= .int .i64 0/\Hq (DnI W gd gr gn gv #[.string s,.slice (some ⟨gN,0,none⟩) nv.length cN] #[.int .i64 2,.int .i64 (na:Int),.int .i64 (nb:Int),.int .i64 (ka:Int),.int .i64 (kb:Int),.slice ok 0 ck,.slice po pn pc] #[.int .i64 2,.string x,.slice none 0 0,.slice none 0 0] wr)) (fun _ _ _ _ _=>0)
  case atStart=>exact⟨rfl,HJ⟩
  case round=>
   obtain⟨rfl,HK⟩:=hrel;clear HJ;obtain⟨n0,n1,n2,n3,n4,n5,n6⟩:=za9 HK.o.hn;obtain⟨z0,z1,z2,z3⟩:=za1 HK.o.hr;obtain⟨y0,y1,y2,y3⟩:=za1 HK.o.hw;have f0:=HK.o.hr.free 0;have f1:=HK.o.hr.free 1;have f2:=HK.o.hr.free 2;have f3:=HK.o.hr.free 3;have HV:=hq (HP.o _ (HPUT.o _ HK.o.b (.int .i64 2) (.string x) (.slice none 0 0) (.slice none 0 0)));clear HP HPUT HK;go_wp2_with fail
   refine bodyPost_ret (v:= .agg #[.int .i64 2,.string x,.slice none 0 0,.slice none 0 0]) ?_ rfl HV.o;simp[results,Tryz.results76,go_sem,z0,z1,z2,z3]
 ·have hpr:=zg7 (l:=x.data.toList) (m:=(zb3 x.data.toList).1) (by rw[←h1]);have HTD:=hq (HTX.o _ hpr);generalize zb3 x.data.toList=R at *;obtain⟨⟨neg,D,E⟩,er⟩:=R;simp only at h1;subst h1;generalize hTM:zk9 ⟨neg,D,E⟩=TM at *;have hTM':=hq hTM;clear HTX HUN hpr hTM HND;obtain⟨n0,n1,n2,n3,n4,n5,n6⟩:=za9 HI.o.hn;obtain⟨y0,y1,y2,y3⟩:=za1 HI.o.hw;have g1:=HI.o.hw.free 1;go_wp2_with fail
  refine(HPA.o _).mono ?_;rintro e w2 ⟨rfl,hb2⟩;have HI2:=hq (HI.o.grow hb2);clear HPA hb2 HI n0 n1 n2 n3 n4 n5 n6 y0 y1 y2 y3 g1;simp only[Dec.val];go_upto_region 9 with fail
  have HI3:=hq (HI2.o.grow (za0 w2 (.cells #[.bool neg,.string (st D),.int .i64 E] 59)));obtain⟨m0,m1,m2⟩:=za2 (Whole.made w2 59 #[.bool neg,.string (st D),.int .i64 E]);generalize w2.alloc (.cells #[.bool neg,.string (st D),.int .i64 E] 59)=W5 at *;generalize w2.heap.size=gm at *;go_wp2_with fail
  refine(HTD.o W5).mono ?_;rintro e w6 ⟨rfl,hb6⟩;have HI6:=hq (HI3.o.grow hb6);have HJ:=hq (HI6.o.text (.string (st TM)));clear HI2 HI3 hb6 HTD m0 m1 m2;obtain⟨n0,n1,n2,n3,n4,n5,n6⟩:=za9 HI6.o.hn;obtain⟨y0,y1,y2,y3⟩:=za1 HI6.o.hw;have g1:=HI6.o.hw.free 1;clear HI6;go_wp2_with fail
  clear n0 n1 n2 n3 n4 n5 n6 y0 y1 y2 y3 g1
  go_loopw [10,11,12,13] (fun i _ _ _ wr=>i= .int .i64 0/\Hq (DnI W gd gr gn gv #[.string s,.slice (some ⟨gN,0,none⟩) nv.length cN] #[.int .i64 3,.int .i64 (na:Int),.int .i64 (nb:Int),.int .i64 (ka:Int),.int .i64 (kb:Int),.slice ok 0 ck,.slice po pn pc] #[.int .i64 3,.string (st TM),.slice none 0 0,.slice none 0 0] wr)) (fun _ _ _ _ _=>0)
  case atStart=>exact⟨rfl,HJ⟩
  case round=>
   obtain⟨rfl,HK⟩:=hrel;clear HJ;obtain⟨n0,n1,n2,n3,n4,n5,n6⟩:=za9 HK.o.hn;obtain⟨z0,z1,z2,z3⟩:=za1 HK.o.hr;obtain⟨y0,y1,y2,y3⟩:=za1 HK.o.hw;have f0:=HK.o.hr.free 0;have f1:=HK.o.hr.free 1;have f2:=HK.o.hr.free 2;have f3:=HK.o.hr.free 3;have HV:=hq (HP.o _ (HPUT.o _ HK.o.b (.int .i64 3) (.string (st TM)) (.slice none 0 0) (.slice none 0 0)));clear HP HPUT HK;go_wp2_with fail
   refine bodyPost_ret (v:= .agg #[.int .i64 3,.string (st TM),.slice none 0 0,.slice none 0 0]) ?_ rfl HV.o;simp[results,Tryz.results76,go_sem,z0,z1,z2,z3]
 ·generalize zb4 x=U at *;obtain⟨ub,up,ue⟩:=U;simp only at h1;subst h1;clear HTX HPA HND;obtain⟨n0,n1,n2,n3,n4,n5,n6⟩:=za9 HI.o.hn;obtain⟨y0,y1,y2,y3⟩:=za1 HI.o.hw;have g1:=HI.o.hw.free 1;go_wp2_with fail
  refine(HUN.o w).mono ?_;rintro e w2 ⟨rfl,hb2⟩;have HI2:=hq (HI.o.grow hb2);have HJ:=hq (HI2.o.text (.string (st ub)));clear HI hb2 HUN n0 n1 n2 n3 n4 n5 n6 y0 y1 y2 y3 g1;obtain⟨n0,n1,n2,n3,n4,n5,n6⟩:=za9 HI2.o.hn;obtain⟨y0,y1,y2,y3⟩:=za1 HI2.o.hw;have g1:=HI2.o.hw.free 1;clear HI2;go_wp2_with fail
  clear n0 n1 n2 n3 n4 n5 n6 y0 y1 y2 y3 g1
  go_loopw [10,11,12,13] (fun i _ _ _ wr=>i= .int .i64 0/\Hq (DnI W gd gr gn gv #[.string s,.slice (some ⟨gN,0,none⟩) nv.length cN] #[.int .i64 4,.int .i64 (na:Int),.int .i64 (nb:Int),.int .i64 (ka:Int),.int .i64 (kb:Int),.slice ok 0 ck,.slice po pn pc] #[.int .i64 4,.string (st ub),.slice none 0 0,.slice none 0 0] wr)) (fun _ _ _ _ _=>0)
  case atStart=>exact⟨rfl,HJ⟩
  case round=>
   obtain⟨rfl,HK⟩:=hrel;clear HJ;obtain⟨n0,n1,n2,n3,n4,n5,n6⟩:=za9 HK.o.hn;obtain⟨z0,z1,z2,z3⟩:=za1 HK.o.hr;obtain⟨y0,y1,y2,y3⟩:=za1 HK.o.hw;have f0:=HK.o.hr.free 0;have f1:=HK.o.hr.free 1;have f2:=HK.o.hr.free 2;have f3:=HK.o.hr.free 3;have HV:=hq (HP.o _ (HPUT.o _ HK.o.b (.int .i64 4) (.string (st ub)) (.slice none 0 0) (.slice none 0 0)));clear HP HPUT HK;go_wp2_with fail
   refine bodyPost_ret (v:= .agg #[.int .i64 4,.string (st ub),.slice none 0 0,.slice none 0 0]) ?_ rfl HV.o;simp[results,Tryz.results76,go_sem,z0,z1,z2,z3]
theorem zK0 {w:World} {g:Nat} {T:TypeId} {l:List Value} (h:Whole w g T l.toArray): ∀j u,l[j]?=some u->w.cell? ((⟨g,0,none⟩:Addr).add j)=some u:=fun j u hu=>by
 rw[Addr.add_lit,Nat.zero_add,h.at_ j,List.getElem?_toArray];exact hu
structure DlI(W:World)(B gd gr gn gv:Nat)(dc cn:Array Value)(kz:Int)(kr:SRow)(o:Option Addr)(c:Nat)(ys:List Vt)(w:World):Prop where
 i:DnI W gd gr gn gv dc cn #[.int .i64 kz,.string ⟨#[]⟩,kr.v,.slice o ys.length c] w
 sz:B<=w.heap.size
 ks:w.ownsRow B 9 1 kr.v kr.l.length (strC kr.l)
 it:w.ownsRow B 26 4 (.slice o ys.length c) ys.length (vtC ys)
 ch: ∀y∈ys,y.Own 26 9 B (fun g=>(Value.slice o ys.length c).ownBlock≠some g/\kr.v.ownBlock≠some g) w
 ld:gd<B
 lr:gr<B
 ln:gn<B
 lv:gv<B
section
variable {W w w':World} {B gd gr gn gv:Nat} {dc cn vc:Array Value} {kz:Int} {kr:SRow} {o:Option Addr} {c:Nat} {ys:List Vt}
theorem DlI.grow(h:DlI W B gd gr gn gv dc cn kz kr o c ys w)(hb:Below w.heap.size w w'):DlI W B gd gr gn gv dc cn kz kr o c ys w':=
 ⟨h.i.grow hb,Nat.le_trans h.sz hb.size,h.ks.kept (zb9 hb none) (by cases kr.v.ownBlock<;>simp),
  h.it.kept (zb9 hb none) (by cases (Value.slice o ys.length c).ownBlock<;>simp),fun y hy=>(h.ch y hy).grow hb,h.ld,h.lr,h.ln,h.lv⟩
theorem DnI.grown(h:DnI W gd gr gn gv dc cn vc w) {ob:Option Nat} (hg:w.grownBy w' ob)(hob: ∀b,ob=some b->B<=b)(hd:gd<B)(hr:gr<B)(hn:gn<B)(hv:gv<B):DnI W gd gr gn gv dc cn vc w':=by
 have ne: ∀g,g<B->some g≠ob:=fun g hg e=>by have:=hob g e.symm;omega
 exact⟨h.b.grown hg h.b.size (fun j ej=>by have:=hob j ej;have:=h.lr;omega),za6 h.hd hg (ne _ hd),za6 h.hr hg (ne _ hr),za6 h.hn hg (ne _ hn),za6 h.hw hg (ne _ hv),h.lr,h.lv,h.nd,h.nr,h.nn⟩
theorem DnI.cell2 {a b d e:Value} (h:DnI W gd gr gn gv dc cn #[a,b,d,e] w)(u:Value):DnI W gd gr gn gv dc cn #[a,b,u,e] (w.setCell ⟨gv,2,none⟩ u):=
 ⟨zd9 h.b h.lv _ _,h.hd.far (p:=⟨gv,2,none⟩) h.nd u,h.hr.far (p:=⟨gv,2,none⟩) h.nr u,h.hn.far (p:=⟨gv,2,none⟩) h.nn u,h.hw.put 2 u,h.lr,h.lv,h.nd,h.nr,h.nn⟩
theorem DnI.cell3 {a b d e:Value} (h:DnI W gd gr gn gv dc cn #[a,b,d,e] w)(u:Value):DnI W gd gr gn gv dc cn #[a,b,d,u] (w.setCell ⟨gv,3,none⟩ u):=
 ⟨zd9 h.b h.lv _ _,h.hd.far (p:=⟨gv,3,none⟩) h.nd u,h.hr.far (p:=⟨gv,3,none⟩) h.nr u,h.hn.far (p:=⟨gv,3,none⟩) h.nn u,h.hw.put 3 u,h.lr,h.lv,h.nd,h.nr,h.nn⟩
theorem DlI.item(h:DlI W B gd gr gn gv dc cn kz kr o c ys w) {x:Vt} {o':Option Addr} {c':Nat} (hx:x.Own 26 9 B (fun g=>(Value.slice o ys.length c).ownBlock≠some g/\kr.v.ownBlock≠some g) w)
 (hown:w'.ownsRow B 26 4 (.slice o' (ys.length+1) c') (ys.length+1) (vtC ys++[.int .i64 x.k,.string (st x.t),x.ks.v,x.row])) (hg:w.grownBy w' (Value.slice o ys.length c).ownBlock)
 (hat:(Value.slice o' (ys.length+1) c').ownBlock=(Value.slice o ys.length c).ownBlock\/(Value.slice o' (ys.length+1) c').ownBlock=some w.heap.size):
 DlI W B gd gr gn gv dc cn kz kr o' c' (ys++[x]) (w'.setCell ⟨gv,3,none⟩ (.slice o' (ys.length+1) c')):=by
 have hl:(ys++[x]).length=ys.length+1:=by rw[List.length_append,List.length_singleton]
 have hI:=h.i.grown (B:=B) hg (fun b e=>(h.it.lt b e).1) h.ld h.lr h.ln h.lv;have hksw:kr.v.ownBlock=none\/kr.v.ownBlock≠(Value.slice o ys.length c).ownBlock:=zj1 h.ks h.it (by decide);refine⟨?_,?_,zh (h.ks.kept hg hksw) hI.hw (by decide) _,?_,fun y hy=> ?_,h.ld,h.lr,h.ln,h.lv⟩
 ·rw[hl];exact hI.cell3 _
 ·rw[show (w'.setCell ⟨gv,3,none⟩ (.slice o' (ys.length+1) c')).heap.size=w'.heap.size by simp[World.setCell]];exact Nat.le_trans h.sz hg.size
 ·rw[hl,zC9];exact zc8 hown h.lv _
 ·have key: ∀y:Vt,y.Own 26 9 B (fun g=>(Value.slice o ys.length c).ownBlock≠some g/\kr.v.ownBlock≠some g) w->y.Own 26 9 B (fun g=>(Value.slice o' (ys++[x]).length c').ownBlock≠some g/\kr.v.ownBlock≠some g) (w'.setCell ⟨gv,3,none⟩ (.slice o' (ys.length+1) c')):=fun y hy=>by
   refine Vt.Own.set ((hy.lt.kept hg (fun g e hs=>hs.1.1 e)).kind (fun g hs=>⟨fun e=> ?_,hs.1.2⟩)) h.lv _;rw[hl]at e;rcases hat with hat|hat
   ·rw[hat]at e;exact hs.1.1 e
   ·rw[hat]at e;have:=Option.some.inj e;omega
  rcases List.mem_append.1 hy with hy|hy
  ·exact key y (h.ch y hy)
  ·rw[List.mem_singleton.1 hy];exact key x hx
theorem DlI.key(h:DlI W B gd gr gn gv dc cn kz kr o c ys w) {x:Bs} {o':Option Addr} {c':Nat}
 (hown:w'.ownsRow B 9 1 (.slice o' (kr.l.length+1) c') (kr.l.length+1) (strC kr.l++[.string (st x)])) (hg:w.grownBy w' kr.v.ownBlock)
 (hat:(Value.slice o' (kr.l.length+1) c').ownBlock=kr.v.ownBlock\/(Value.slice o' (kr.l.length+1) c').ownBlock=some w.heap.size):
 DlI W B gd gr gn gv dc cn kz ⟨o',c',kr.l++[x]⟩ o c ys (w'.setCell ⟨gv,2,none⟩ (.slice o' (kr.l.length+1) c')):=by
 have hl:(kr.l++[x]).length=kr.l.length+1:=by rw[List.length_append,List.length_singleton]
 have hI:=h.i.grown (B:=B) hg (fun b e=>(h.ks.lt b e).1) h.ld h.lr h.ln h.lv;have hitw:(Value.slice o ys.length c).ownBlock=none\/(Value.slice o ys.length c).ownBlock≠kr.v.ownBlock:=zj1 h.it h.ks (by decide);have hv:(⟨o',c',kr.l++[x]⟩:SRow).v= .slice o' (kr.l.length+1) c':=by
  show Value.slice o' (kr.l++[x]).length c'=_;rw[hl]
 refine⟨?_,?_,?_,zc8 (h.it.kept hg hitw) h.lv _,fun y hy=> ?_,h.ld,h.lr,h.ln,h.lv⟩
 ·rw[hv];exact hI.cell2 _
 ·rw[show (w'.setCell ⟨gv,2,none⟩ (.slice o' (kr.l.length+1) c')).heap.size=w'.heap.size by simp[World.setCell]];exact Nat.le_trans h.sz hg.size
 ·rw[hv];show(w'.setCell ⟨gv,2,none⟩ _).ownsRow B 9 1 (.slice o' (kr.l.length+1) c') (kr.l++[x]).length (strC (kr.l++[x]));rw[hl,show strC (kr.l++[x])=strC kr.l++[.string (st x)] by unfold strC;simp];exact zc8 hown h.lv _
 ·refine Vt.Own.set (((h.ch y hy).lt.kept hg (fun g e hs=>hs.1.2 e)).kind (fun g hs=>⟨hs.1.1,fun e=> ?_⟩)) h.lv _;rw[hv]at e;rcases hat with hat|hat
  ·rw[hat]at e;exact hs.1.2 e
  ·rw[hat]at e;have:=Option.some.inj e;omega
theorem DlI.out(h:DlI W B gd gr gn gv dc cn kz kr o c ys w)(hB:W.heap.size<=B)(a b d f:Value):(Vt.mk kz [] kr o c ys).Own 26 9 W.heap.size (fun _=>True) ((((w.setCell ⟨gr,0,none⟩ a).setCell ⟨gr,1,none⟩ b).setCell ⟨gr,2,none⟩ d).setCell ⟨gr,3,none⟩ f):=by
 have p0:=h.i.hr.put 0 a;have p1:=p0.put 1 b;have p2:=p1.put 2 d;refine .mk kz [] kr o c ys (zr4 (zh (zh (zh (zh h.ks h.i.hr (by decide) a) p0 (by decide) b) p1 (by decide) d) p2 (by decide) f) hB) (fun _ _=>trivial)
  (zr4 (zc8 (zc8 (zc8 (zc8 h.it h.lr a) h.lr b) h.lr d) h.lr f) hB) (fun _ _=>trivial)
  (fun _i hi=>(((((h.ch _ (List.getElem_mem hi)).set h.lr a).set h.lr b).set h.lr d).set h.lr f).base hB|>.kind (fun _ _=>trivial))
end
def RN16(s:ByteArray)(gd gn gN n cN:Nat)(b kl ck j kid ka kb:Nat)(u:Bs×Nat×Int)(i:Nat)(v:Value)(_ _:Nat)(_:World):Prop:=match i with
 |0=>v= .agg #[.string s,.slice (some ⟨gN,0,none⟩) n cN]
 |1=>v= .pointer (some ⟨gd,1,none⟩)
 |2=>v= .slice (some ⟨gN,0,none⟩) n cN
 |3=>v= .pointer (some ⟨gn,5,none⟩)
 |4=>v= .slice (some ⟨b,0,none⟩) kl ck
 |5=>v= .int .i64 (j:Int)
 |6=>v= .pointer (some ⟨b,j,none⟩)
 |7=>v= .int .i64 (kid:Int)
 |8=>v= .pointer (some ⟨gN,kid*7,none⟩)
 |9=>v= .pointer (some ⟨gN,kid*7+3,none⟩)
 |10=>v= .agg #[.int .i64 (ka:Int),.int .i64 (kb:Int)]
 |11=>v= .string (s.extract ka kb)
 |12=>v= .tuple #[.string (st u.1),.int .i64 (u.2.1:Int),.int .i64 u.2.2]
 |13=>v= .tuple #[.string (st u.1),.int .i64 (u.2.1:Int),.int .i64 u.2.2]
 |14=>v= .string (st u.1)
 |15=>v= .int .i64 (u.2.1:Int)
 |16=>v= .int .i64 u.2.2
 |17=>v= .string (st u.1)
 |18=>v= .int .i64 (u.2.1:Int)
 |19=>v= .int .i64 u.2.2
 |_=>True
def RN18(s:ByteArray)(_gd gv gn gN n cN:Nat)(b kl ck j kid:Nat)(pp:Option Addr)(pl qq B0:Nat)(vj:Vl)(i:Nat)(v:Value)(_ _:Nat)(W:World):Prop:=match i with
 |0=>v= .pointer (some ⟨gv,3,none⟩)
 |1=>v= .slice pp pl qq
 |2=>v= .agg #[.string s,.slice (some ⟨gN,0,none⟩) n cN]
 |3=>v= .pointer (some ⟨gn,5,none⟩)
 |4=>v= .slice (some ⟨b,0,none⟩) kl ck
 |5=>v= .int .i64 (j:Int)
 |6=>v= .pointer (some ⟨b,j,none⟩)
 |7=>v= .int .i64 (kid:Int)
 |8=> ∃y:Vt,v=y.v/\y.Own 26 9 B0 (fun _=>True) W/\y.m=vj
 |9=>v= .slice (some ⟨slB v,0,none⟩) 1 1/\ ∃y:Vt,Whole W (slB v) 26 #[.int .i64 y.k,.string (st y.t),y.ks.v,y.row]/\y.Own 26 9 B0 (fun _=>True) W/\y.m=vj
 |_=>True
theorem zC1(s:ByteArray)(nv:List NV)(gN cN:Nat)(k:Nat)(hk:k<nv.length)(hcN:nv.length<=cN/\cN<=9223372036854775807/\nv.length<=4096)(W:World)(kd na nb ka kb:Nat)(kids:List Nat)(ok:Option Addr)(ck:Nat)(po:Option Addr)(pn pc:Nat)(HND:Hq (∀V,Below W.heap.size W V->V.cell? ⟨gN,k*7,none⟩=some (.int .i64 (kd:Int))/\V.cell? ⟨gN,k*7+1,none⟩=some (.int .i64 (na:Int))/\V.cell? ⟨gN,k*7+2,none⟩=some (.int .i64 (nb:Int))/\V.cell? ⟨gN,k*7+3,none⟩=some (.int .i64 (ka:Int))/\V.cell? ⟨gN,k*7+4,none⟩=some (.int .i64 (kb:Int))/\V.cell? ⟨gN,k*7+5,none⟩=some (.slice ok kids.length ck)/\V.cell? ⟨gN,k*7+6,none⟩=some (.slice po pn pc)))
 (hkd:kd=5\/kd=6) (hs:s.size<=65536) (hkl':kids.length<=ck/\ck<=9223372036854775807/\kids.length<=4096) (hlt: ∀q (hq:q<kids.length),kids[q]<nv.length)
 (HKC:Hq (∀q (hq':q<kids.length) V,Below W.heap.size W V-> ∃b,ok=some ⟨b,0,none⟩/\V.cell? ⟨b,q,none⟩=some (.int .i64 (kids[q]:Int))))
 (ks:List Bs) (vs:List Vl) (hvl:vs.length=kids.length)
 (HKY:Hq (kd=6->ks.length=kids.length/\ ∀q (hq':q<kids.length),∃ka' kb':Nat,Hq (∀V,Below W.heap.size W V->V.cell? ⟨gN,kids[q]*7+3,none⟩=some (.int .i64 (ka':Int))/\V.cell? ⟨gN,kids[q]*7+4,none⟩=some (.int .i64 (kb':Int)))/\zC8 s ka' kb'/\ks.getD q []=za3 s ka' kb'))
 (HIH:Hq (∀q (hq':q<kids.length) V,Below W.heap.size W V->Calls Tryz.prog 76 #[.agg #[.string s,.slice (some ⟨gN,0,none⟩) nv.length cN],.int .i64 (kids[q]:Int)] V (zl6 (vs.getD q zV) V))):
 Calls Tryz.prog 76 #[.agg #[.string s,.slice (some ⟨gN,0,none⟩) nv.length cN],.int .i64 (k:Int)] W (zl6 (.mk (kd:Int) [] (if kd=6 then ks else []) vs) W):=by
 obtain⟨hc1,hc2,hc3⟩:=hcN;obtain⟨hk1,hk2,hk3⟩:=hkl';have HSL:=hq (fun V=>zA0 s (.slice (some ⟨gN,0,none⟩) nv.length cN) ⟨_,_,_,rfl⟩ (na:Int) (nb:Int) V (by unfold maxLen;omega));have HSK:=hq (fun (a b:Nat) V=>zA0 s (.slice (some ⟨gN,0,none⟩) nv.length cN) ⟨_,_,_,rfl⟩ (a:Int) (b:Int) V (by unfold maxLen;omega));have HUN:=hq (fun (a b:Nat) V=>zp (s.extract a b) V (by rw[ByteArray.size_extract];omega));have HP:Hq (∀(y:Vt) W',y.Own 26 9 W.heap.size (fun _=>True) W'->y.m= .mk (kd:Int) [] (if kd=6 then ks else []) vs->Below W.heap.size W W'->zl6 (.mk (kd:Int) [] (if kd=6 then ks else []) vs) W (.returned y.v) W'):=hq (fun y W' h1 h2 h3=>⟨y,rfl,h1,h2,h3⟩);have HVL:=hq hvl;have HLT:=hq hlt;generalize zl6 (.mk (kd:Int) [] (if kd=6 then ks else []) vs) W=PP at *;generalize zx8 s (na:Int) (nb:Int)=sl at *;clear hvl hlt;have HB0:=hq (za0 W (.cells #[.string s,.slice (some ⟨gN,0,none⟩) nv.length cN] 78));have HD0:=hq (Whole.made W 78 #[.string s,.slice (some ⟨gN,0,none⟩) nv.length cN]);have hz0:Hq ((W.alloc (.cells #[.string s,.slice (some ⟨gN,0,none⟩) nv.length cN] 78)).heap.size=W.heap.size+1):=hq (World.size_alloc _ _);have hk0: ¬(k:Int)<0:=by omega
 have hkl:(k:Int)<(nv.length:Int):=by omega
 go_enter Tryz.func76,Tryz.ntmps76
 go_upto_region 1 with fail
 generalize (W.alloc (.cells #[.string s,.slice (some ⟨gN,0,none⟩) nv.length cN] 78))=W1 at *;have HB1:=hq (HB0.o.alloc HB0.o.size (.cells #[.int .i64 0,.string ⟨#[]⟩,.slice none 0 0,.slice none 0 0] 26));have HD1:=hq (HD0.o.alloc (.cells #[.int .i64 0,.string ⟨#[]⟩,.slice none 0 0,.slice none 0 0] 26));have HR1:=hq (Whole.made W1 26 #[.int .i64 0,.string ⟨#[]⟩,.slice none 0 0,.slice none 0 0]);rw[hz0.o]at HR1;generalize (W1.alloc (.cells #[.int .i64 0,.string ⟨#[]⟩,.slice none 0 0,.slice none 0 0] 26))=W2 at *;have d1:=HD1.o.at_ 1;obtain⟨n0,n1,n2,n3,n4,n5,n6⟩:=HND.o W2 HB1.o;go_upto_region 2 with fail
 have hb2:=za0 W2 (.cells #[.int .i64 (kd:Int),.int .i64 (na:Int),.int .i64 (nb:Int),.int .i64 (ka:Int),.int .i64 (kb:Int),.slice ok kids.length ck,.slice po pn pc] 149);have HB2:=hq (HB1.o.alloc HB1.o.size (.cells #[.int .i64 (kd:Int),.int .i64 (na:Int),.int .i64 (nb:Int),.int .i64 (ka:Int),.int .i64 (kb:Int),.slice ok kids.length ck,.slice po pn pc] 149));have HD2:=hq (HD1.o.grow hb2);have HR2:=hq (HR1.o.grow hb2);have HN2:=hq (Whole.made W2 149 #[.int .i64 (kd:Int),.int .i64 (na:Int),.int .i64 (nb:Int),.int .i64 (ka:Int),.int .i64 (kb:Int),.slice ok kids.length ck,.slice po pn pc]);have hln:W.heap.size+1<W2.heap.size:=HR1.o.lt;clear d1 n0 n1 n2 n3 n4 n5 n6 HB0 HD0 HB1 HD1 HR1 hz0;generalize (W2.alloc (.cells #[.int .i64 (kd:Int),.int .i64 (na:Int),.int .i64 (nb:Int),.int .i64 (ka:Int),.int .i64 (kb:Int),.slice ok kids.length ck,.slice po pn pc] 149))=W3 at *;generalize W2.heap.size=gn at *;have d0:=HD2.o.at_ 0;have d1:=HD2.o.at_ 1;obtain⟨n0,n1,n2,n3,n4,n5,n6⟩:=za9 HN2.o;go_wp2_with fail
 refine(HSL.o W3).mono ?_;rintro e W4 ⟨rfl,hb4⟩;have HN4:=hq (HN2.o.grow hb4);have hgn4:gn<W4.heap.size:=HN4.o.lt;clear d0 d1 n0 n1 n2 n3 n4 n5 n6 HSL;obtain⟨n0,n1,n2,n3,n4,n5,n6⟩:=za9 HN4.o;go_upto_region 4 with fail
 have HI:Hq (DnI W W.heap.size (W.heap.size+1) gn W4.heap.size #[.string s,.slice (some ⟨gN,0,none⟩) nv.length cN] #[.int .i64 (kd:Int),.int .i64 (na:Int),.int .i64 (nb:Int),.int .i64 (ka:Int),.int .i64 (kb:Int),.slice ok kids.length ck,.slice po pn pc] #[.int .i64 (kd:Int),.string ⟨#[]⟩,.slice none 0 0,.slice none 0 0] (W4.alloc (.cells #[.int .i64 (kd:Int),.string ⟨#[]⟩,.slice none 0 0,.slice none 0 0] 26))):=
  hq ⟨(HB2.o.trans (hb4.mono HB2.o.size)).alloc (HB2.o.trans (hb4.mono HB2.o.size)).size _,(HD2.o.grow hb4).alloc _,(HR2.o.grow hb4).alloc _,HN4.o.alloc _,Whole.made _ _ _,Nat.le_succ _,by omega,by omega,by omega,by omega⟩
 clear n0 n1 n2 n3 n4 n5 n6 HN4 HN2 HR2 HD2 HB2 hb4 hb2;generalize (W4.alloc (.cells #[.int .i64 (kd:Int),.string ⟨#[]⟩,.slice none 0 0,.slice none 0 0] 26))=w at *;obtain⟨gv,HGV⟩: ∃g,Hq (W4.heap.size=g):=⟨_,hq rfl⟩;rw[HGV.o]at HI;rw[HGV.o];obtain⟨gd,HGD⟩: ∃g,Hq (W.heap.size=g):=⟨_,hq rfl⟩;obtain⟨gr,HGR⟩: ∃g,Hq (W.heap.size+1=g):=⟨_,hq rfl⟩;rw[HGR.o,HGD.o]at HI;rw[HGR.o,HGD.o];clear HGV hgn4 hln;have hlw:gd<w.heap.size/\gr<w.heap.size/\gn<w.heap.size/\gv<w.heap.size:=⟨HI.o.hd.lt,HI.o.hr.lt,HI.o.hn.lt,HI.o.hw.lt⟩;obtain⟨B,HB⟩: ∃B,Hq (w.heap.size=B):=⟨_,hq rfl⟩;have HL0:Hq (DlI W B gd gr gn gv #[.string s,.slice (some ⟨gN,0,none⟩) nv.length cN] #[.int .i64 (kd:Int),.int .i64 (na:Int),.int .i64 (nb:Int),.int .i64 (ka:Int),.int .i64 (kb:Int),.slice ok kids.length ck,.slice po pn pc] (kd:Int) ⟨none,0,[]⟩ none 0 [] w):=hq ⟨HI.o,Nat.le_of_eq HB.o.symm,World.ownsRow_nil _ _ _ _,World.ownsRow_nil _ _ _ _,(fun y hy=>by cases hy),by have:=HB.o;omega,by have:=HB.o;omega,by have:=HB.o;omega,by have:=HB.o;omega⟩;have hWB:W.heap.size<=B:=by have:=HI.o.b.size;have:=HB.o;omega
 clear hlw HB;obtain⟨n0,n1,n2,n3,n4,n5,n6⟩:=za9 HI.o.hn;have k2:((kd:Int)==2)=false:=beq_eq_false_iff_ne.2 (by omega);have k3:((kd:Int)==3)=false:=beq_eq_false_iff_ne.2 (by omega);have k4:((kd:Int)==4)=false:=beq_eq_false_iff_ne.2 (by omega);go_wp2_with fail
 clear n0 n1 n2 n3 n4 n5 n6 HI HND
 go_loopw [10,11,12,13] (fun i _ _ _ wr=> ∃(j:Nat) (kr:SRow) (pp:Option Addr) (qq:Nat) (ys:List Vt),j<=kids.length/\i= .int .i64 (j:Int)/\Hq (DlI W B gd gr gn gv #[.string s,.slice (some ⟨gN,0,none⟩) nv.length cN] #[.int .i64 (kd:Int),.int .i64 (na:Int),.int .i64 (nb:Int),.int .i64 (ka:Int),.int .i64 (kb:Int),.slice ok kids.length ck,.slice po pn pc] (kd:Int) kr pp qq ys wr)/\Hq (ys.map Vt.m=vs.take j)/\Hq (kr.l=if kd=6 then ks.take j else [])) (fun i _ _ _ _=>kids.length-(intOf i).toNat)
 case atStart=>exact⟨0,⟨none,0,[]⟩,none,0,[],Nat.zero_le _,rfl,HL0,hq rfl,hq (by split<;>rfl)⟩
 case round=>
  obtain⟨j,kr,pp,qq,ys,hj,rfl,hI,hys,hkr⟩:=hrel;clear HL0;obtain⟨q0,q1,q2,q3,q4,q5,q6⟩:=za9 hI.o.i.hn;by_cases h:j<kids.length
  ·have hz:(j:Int)<(kids.length:Int):=by omega
   have HK0:=hq (show∀U,Below W.heap.size W U-> ∃b,ok=some ⟨b,0,none⟩/\U.cell? ⟨b,j,none⟩=some (.int .i64 (kids[j]:Int)) from fun U hU=>HKC.o j h U hU);obtain⟨b,hob,_⟩:=HK0.o W (Below.refl _ _)
   replace HK0:=hq (show∀U,Below W.heap.size W U->U.cell? ⟨b,j,none⟩=some (.int .i64 (kids[j]:Int)) from fun U hU=>by
    obtain⟨b',h1,h2⟩:=HK0.o U hU;rw[hob]at h1;cases h1;exact h2)
   have HC:=hq (fun V hV=>HIH.o j h V hV);have HTKV:=hq (zx6 vs zV (j:=j) (by have:=HVL.o;omega));have hyl:ys.length<=4096:=by
    have h1:=congrArg List.length hys.o;rw[List.length_map,List.length_take]at h1;omega
   have hkid:=HLT.o j h;have HKQ:=hq (fun h6=>(HKY.o h6).2 j h);have HKL:=hq (fun h6=>(HKY.o h6).1);generalize kids[j]=kid at *;generalize vs.getD j zV=vj at *;subst hob;clear HKC HIH HKY HLT;have hkz:(kid:Int)<(nv.length:Int):=by omega
   by_cases h6:kd=6
   case neg=>
    have e5:((kd:Int)==6)=false:=beq_eq_false_iff_ne.2 (by omega);have HKR:Hq (kr.l=if kd=6 then ks.take (j+1) else []):=hq (by rw[if_neg h6];have:=hkr.o;rw[if_neg h6]at this;exact this);clear h6 hkd hkr HKQ HKL HSK HUN HVL;go_upto_region 18 with fail
    clear q0 q1 q2 q3 q4 q5 q6;refine zB (by kernel_rfl) [(0,84),(1,85),(2,86),(3,87),(4,88),(5,89),(6,90),(7,91),(8,92),(9,93)] [[0],[1,0],[2],[3],[4,3],[5],[6,4,3,5],[7,6,4,3,5],[8,2,7,6,4,3,5],[9,8,2,7,6,4,3,5]] [] [10,11,12] (RN18 s gd gv gn gN nv.length cN b kids.length ck j kid pp ys.length qq wr.heap.size vj) ?A_hI ?hA_hI (by kernel_rfl) ?hs_hI ?he_hI
    case hA_hI=>
     intro f;simp only[putS];go_simp
     rfl
    case hs_hI=>
     refine Steps.cons rfl ?_ (Steps.cons rfl ?_ (Steps.cons rfl ?_ (Steps.cons rfl ?_ (Steps.cons rfl ?_ (Steps.cons rfl ?_ (Steps.cons rfl ?_ (Steps.cons rfl ?_ (Steps.cons rfl ?_ (Steps.cons rfl ?_ Steps.nil)))))))))
     ·intro f lo hi W2 hb hd K hK;rw[if_pos (by rfl)];go_simp
      exact hK _ _ (Below.refl _ _) (fun V _ _ _ _=>rfl)
     ·intro f lo hi W2 hb hd K hK;rw[if_pos (by rfl)];have e0:f 0=_:=(hd 0 (by decide) (by decide));clear hd
      try dsimp only at hK
      generalize f 0=x0 at e0 hK ⊢;subst e0;obtain⟨y0,y1,y2,y3⟩:=za1 (hI.o.grow hb).i.hw;go_simp
      exact hK _ _ (Below.refl _ _) (fun V _ _ _ _=>rfl)
     ·intro f lo hi W2 hb hd K hK;rw[if_pos (by rfl)];have r0:=(hI.o.grow hb).i.hd.at_ 0;have r1:=(hI.o.grow hb).i.hd.at_ 1;go_simp
      exact hK _ _ (Below.refl _ _) (fun V _ _ _ _=>rfl)
     ·intro f lo hi W2 hb hd K hK;rw[if_pos (by rfl)];go_simp
      exact hK _ _ (Below.refl _ _) (fun V _ _ _ _=>rfl)
     ·intro f lo hi W2 hb hd K hK;rw[if_pos (by rfl)];have e3:f 3=_:=(hd 3 (by decide) (by decide));clear hd
      try dsimp only at hK
      generalize f 3=x3 at e3 hK ⊢;subst e3;obtain⟨q0,q1,q2,q3,q4,q5,q6⟩:=za9 (hI.o.grow hb).i.hn;go_simp
      exact hK _ _ (Below.refl _ _) (fun V _ _ _ _=>rfl)
     ·intro f lo hi W2 hb hd K hK;rw[if_pos (by rfl)];go_simp
      exact hK _ _ (Below.refl _ _) (fun V _ _ _ _=>rfl)
     ·intro f lo hi W2 hb hd K hK;rw[if_pos (by rfl)];have e4:f 4=_:=(hd 4 (by decide) (by decide));have e5:f 5=_:=(hd 5 (by decide) (by decide));clear hd
      try dsimp only at hK
      generalize f 4=x4 at e4 hK ⊢;generalize f 5=x5 at e5 hK ⊢;subst e4;subst e5;go_simp
      exact hK _ _ (Below.refl _ _) (fun V _ _ _ _=>rfl)
     ·intro f lo hi W2 hb hd K hK;rw[if_pos (by rfl)];have e6:f 6=_:=(hd 6 (by decide) (by decide));clear hd
      try dsimp only at hK
      generalize f 6=x6 at e6 hK ⊢;subst e6;have k1:=HK0.o W2 (hI.o.grow hb).i.b;go_simp
      exact hK _ _ (Below.refl _ _) (fun V _ _ _ _=>rfl)
     ·intro f lo hi W2 hb hd K hK;have e2:f 2=_:=hd 2 (by decide) (by decide);have e7:f 7=_:=hd 7 (by decide) (by decide);clear hd
      try dsimp only at hK
      generalize f 2=x2 at e2 hK ⊢;generalize f 7=x7 at e7 hK ⊢;subst e2;subst e7;rw[if_pos (by rfl)];go_simp
      refine(HC.o W2 (hI.o.grow hb).i.b).mono ?_;rintro e w2 ⟨y,rfl,hyo,hym,hb2⟩;exact hK _ _ hb2 (fun V _ hsz hbl _=>⟨y,rfl,(own_same hyo (fun g h1 h2=>hbl g h1 h2)).base hb.size,hym⟩)
     ·intro f lo hi W2 hb hd K hK;obtain⟨y,e8,_,_⟩:=hd 8 (by decide) (by decide);have HF:Hq (∀V,(∀j'∈ [9,8,2,7,6,4,3,5],j'≠9->RN18 s gd gv gn gN nv.length cN b kids.length ck j kid pp ys.length qq wr.heap.size vj j' (f j') (lo j') (hi j') V)-> ∃y:Vt,f 8=y.v/\y.Own 26 9 wr.heap.size (fun _=>True) V/\y.m=vj):=hq (fun V h=>h 8 (by decide) (by decide));clear hd
      try dsimp only at hK
      generalize f 8=x8 at e8 HF hK ⊢;obtain⟨yk,yt,⟨yko,ykc,ykl⟩,yo,yc,yis⟩:=y;rw[Vt.v_mk']at e8;subst e8;rw[if_pos (by rfl)];go_simp
      refine hK (.slice (some ⟨W2.heap.size,0,none⟩) 1 1) _ (za0 _ _) (fun V _ _ h h2=>⟨rfl,?_⟩);obtain⟨y',h3,h4,h5⟩:=HF.o V h2;refine⟨y',?_,h4,h5⟩;obtain⟨a1,a2,⟨a3,a4,a5⟩,a6,a7,a8⟩:=y';rw[Vt.v_mk']at h3;injection h3 with h3
      have h6:=zz6 h;rw[h3]at h6;exact h6
    case he_hI=>
     intro f lo hi W2 hb hR hbx hk;have e0:f 0=_:=hR 0 (by decide);have e1:f 1=_:=hR 1 (by decide);obtain⟨e9,y,hwy,hyo,hym⟩:=hR 9 (by decide);clear hR hbx hk;have HI2:=hq (hI.o.grow hb);have HYO:=hq (show y.Own 26 9 B (fun g=>(Value.slice pp ys.length qq).ownBlock≠some g/\kr.v.ownBlock≠some g) W2 from(hyo.lt.base hI.o.sz).kind (fun g hg=>⟨fun e=>by have h1:=(hI.o.it.lt g e).2;omega,fun e=>by have h1:=(hI.o.ks.lt g e).2;omega⟩));have HYM:=hq hym;obtain⟨yk,yt,⟨yko,ykc,ykl⟩,yo,yc,yis⟩:=y;have HWY:=hq (show Whole W2 (slB (f 9)) 26 #[.int .i64 yk,.string (st yt),.slice yko ykl.length ykc,.slice yo yis.length yc] from hwy);clear hwy hyo hym;generalize slB (f 9)=g9 at *;generalize f 0=x0 at *;generalize f 1=x1 at *;generalize f 9=x9 at *;subst e0;subst e1;subst e9;obtain⟨i1,hi1,hy0,hy1,hy2⟩:=zo6 infoVv;refine zp6 rfl ?_;refine step_atV rfl (.tmp 85) (.tmp 93) 24 rfl B 26 i1 (.agg #[.int .i64 0,.string ⟨#[]⟩,.slice none 0 0,.slice none 0 0]) 4 72 Tryz.underlying24 hi1 hy0 hy1 hy2 rfl (by decide) (.slice pp ys.length qq) ys.length (vtC ys) (by simp[Act.eval]) HI2.o.it ⟨g9,0,none⟩ 1 1 [.int .i64 yk,.string (st yt),.slice yko ykl.length ykc,.slice yo yis.length yc] (by simp[Act.eval]) rfl (zK0 HWY.o) (by simp[Value.oneCell']) (by unfold maxLen;omega) (by omega) HI2.o.sz ?_;intro v' w6 hown6 hgrow6 hat6;obtain⟨g6,c6,rfl⟩:=zo1 hown6;have hw6:=(HI2.o.i.grown (B:=B) hgrow6 (fun b' e=>(HI2.o.it.lt b' e).1) HI2.o.ld HI2.o.lr HI2.o.ln HI2.o.lv).hw;have e6a:=hw6.at_ 3;have e6b:=hw6.free 3;have HI6:=hq (HI2.o.item (x:=Vt.mk yk yt ⟨yko,ykc,ykl⟩ yo yc yis) HYO.o hown6 hgrow6 hat6);have HYS:Hq ((ys++[Vt.mk yk yt ⟨yko,ykc,ykl⟩ yo yc yis]).map Vt.m=vs.take (j+1)):=hq (by
      rw[List.map_append,hys.o,HTKV.o,List.map_cons,List.map_nil,HYM.o])
     clear hown6 hgrow6 hat6 hw6 HI2 HYO HYM HWY hys HTKV hI hi1 hy0 hy1 hy2 HC HK0 hb;refine zp6 rfl ?_;rw[if_pos (by rfl)];go_simp
     refine zp6 rfl ?_;rw[if_pos (by rfl)];go_simp
     refine zn6 ?_;generalize (w6.setCell ⟨gv,3,none⟩ (.slice (some ⟨g6,0,none⟩) (ys.length+1) c6))=W7 at *;generalize (ys++[Vt.mk yk yt ⟨yko,ykc,ykl⟩ yo yc yis])=ys1 at *;clear e6a e6b;go_wp2_with fail
     go_roundw
     case rel=>exact⟨j+1,kr,some ⟨g6,0,none⟩,c6,ys1,h,zb5 (by omega),HI6,HYS,HKR⟩
     case measure=>(try simp[intOf]);omega
   case pos=>
    have e5:((kd:Int)==6)=true:=by rw[h6];rfl
    obtain⟨xa,xb,HKN,hso,hkn⟩:=HKQ.o h6;have HSJ:=hq (fun V=>HSK.o xa xb V);rw[zD3 (Nat.le_of_lt hso.1) hso.2.1]at HSJ;have HUJ:=hq (fun V=>HUN.o xa xb V);have HTK6:=hq (zx6 ks [] (j:=j) (by have:=HKL.o h6;omega));have HKNM:Hq (ks.getD j []=(zb4 (s.extract xa xb)).1):=hq hkn;rw[HKNM.o]at HTK6;have HKRL:Hq (kr.l=ks.take j):=hq (by have:=hkr.o;rw[if_pos h6]at this;exact this);have HKLL:Hq (kr.l.length<=4096):=hq (by rw[HKRL.o,List.length_take];omega);have H6:=hq h6;generalize zb4 (s.extract xa xb)=u at *;clear h6 hkd hkr HKQ HKL HSK HUN HVL hso hkn HKNM;go_upto_region 16 with fail
    clear q0 q1 q2 q3 q4 q5 q6;refine zB (by kernel_rfl) [(0,62),(1,63),(2,64),(3,65),(4,66),(5,67),(6,68),(7,69),(8,70),(9,71),(10,72),(11,73),(12,74),(13,61),(14,75),(15,76),(16,77),(17,11),(18,12),(19,13)] [[0],[1],[2,1],[3],[4,3],[5],[6,4,3,5],[7,6,4,3,5],[8,2,1,7,6,4,3,5],[9,8,2,1,7,6,4,3,5],[10,9,8,2,1,7,6,4,3,5],[11,0,10,9,8,2,1,7,6,4,3,5],[12,11,0,10,9,8,2,1,7,6,4,3,5],[13,12,11,0,10,9,8,2,1,7,6,4,3,5],[14,13,12,11,0,10,9,8,2,1,7,6,4,3,5],[15,13,12,11,0,10,9,8,2,1,7,6,4,3,5],[16,13,12,11,0,10,9,8,2,1,7,6,4,3,5],[17,14,13,12,11,0,10,9,8,2,1,7,6,4,3,5],[18,15,13,12,11,0,10,9,8,2,1,7,6,4,3,5],[19,16,13,12,11,0,10,9,8,2,1,7,6,4,3,5]] [] [] (RN16 s gd gn gN nv.length cN b kids.length ck j kid xa xb u) ?A_k ?hA_k (by kernel_rfl) ?hs_k ?he_k
    case hA_k=>
     intro f;simp only[putS];go_simp
     rfl
    case hs_k=>
     refine Steps.cons rfl ?_ (Steps.cons rfl ?_ (Steps.cons rfl ?_ (Steps.cons rfl ?_ (Steps.cons rfl ?_ (Steps.cons rfl ?_ (Steps.cons rfl ?_ (Steps.cons rfl ?_ (Steps.cons rfl ?_ (Steps.cons rfl ?_ (Steps.cons rfl ?_ (Steps.cons rfl ?_ (Steps.cons rfl ?_ (Steps.cons rfl ?_ (Steps.cons rfl ?_ (Steps.cons rfl ?_ (Steps.cons rfl ?_ (Steps.cons rfl ?_ (Steps.cons rfl ?_ (Steps.cons rfl ?_ Steps.nil)))))))))))))))))))
     ·intro f lo hi W2 hb hd K hK;rw[if_pos (by rfl)];have r0:=(hI.o.grow hb).i.hd.at_ 0;have r1:=(hI.o.grow hb).i.hd.at_ 1;go_simp
      exact hK _ _ (Below.refl _ _) (fun V _ _ _ _=>rfl)
     ·intro f lo hi W2 hb hd K hK;rw[if_pos (by rfl)];go_simp
      exact hK _ _ (Below.refl _ _) (fun V _ _ _ _=>rfl)
     ·intro f lo hi W2 hb hd K hK;rw[if_pos (by rfl)];have e1:f 1=_:=(hd 1 (by decide) (by decide));clear hd
      try dsimp only at hK
      generalize f 1=x1 at e1 hK ⊢;subst e1;have r0:=(hI.o.grow hb).i.hd.at_ 0;have r1:=(hI.o.grow hb).i.hd.at_ 1;go_simp
      exact hK _ _ (Below.refl _ _) (fun V _ _ _ _=>rfl)
     ·intro f lo hi W2 hb hd K hK;rw[if_pos (by rfl)];go_simp
      exact hK _ _ (Below.refl _ _) (fun V _ _ _ _=>rfl)
     ·intro f lo hi W2 hb hd K hK;rw[if_pos (by rfl)];have e3:f 3=_:=(hd 3 (by decide) (by decide));clear hd
      try dsimp only at hK
      generalize f 3=x3 at e3 hK ⊢;subst e3;obtain⟨q0,q1,q2,q3,q4,q5,q6⟩:=za9 (hI.o.grow hb).i.hn;go_simp
      exact hK _ _ (Below.refl _ _) (fun V _ _ _ _=>rfl)
     ·intro f lo hi W2 hb hd K hK;rw[if_pos (by rfl)];go_simp
      exact hK _ _ (Below.refl _ _) (fun V _ _ _ _=>rfl)
     ·intro f lo hi W2 hb hd K hK;rw[if_pos (by rfl)];have e4:f 4=_:=(hd 4 (by decide) (by decide));have e5:f 5=_:=(hd 5 (by decide) (by decide));clear hd
      try dsimp only at hK
      generalize f 4=x4 at e4 hK ⊢;generalize f 5=x5 at e5 hK ⊢;subst e4;subst e5;go_simp
      exact hK _ _ (Below.refl _ _) (fun V _ _ _ _=>rfl)
     ·intro f lo hi W2 hb hd K hK;rw[if_pos (by rfl)];have e6:f 6=_:=(hd 6 (by decide) (by decide));clear hd
      try dsimp only at hK
      generalize f 6=x6 at e6 hK ⊢;subst e6;have k1:=HK0.o W2 (hI.o.grow hb).i.b;go_simp
      exact hK _ _ (Below.refl _ _) (fun V _ _ _ _=>rfl)
     ·intro f lo hi W2 hb hd K hK;rw[if_pos (by rfl)];have e2:f 2=_:=(hd 2 (by decide) (by decide));have e7:f 7=_:=(hd 7 (by decide) (by decide));clear hd
      try dsimp only at hK
      generalize f 2=x2 at e2 hK ⊢;generalize f 7=x7 at e7 hK ⊢;subst e2;subst e7;go_simp
      exact hK _ _ (Below.refl _ _) (fun V _ _ _ _=>rfl)
     ·intro f lo hi W2 hb hd K hK;rw[if_pos (by rfl)];have e8:f 8=_:=(hd 8 (by decide) (by decide));clear hd
      try dsimp only at hK
      generalize f 8=x8 at e8 hK ⊢;subst e8;go_simp
      exact hK _ _ (Below.refl _ _) (fun V _ _ _ _=>rfl)
     ·intro f lo hi W2 hb hd K hK;rw[if_pos (by rfl)];have e9:f 9=_:=(hd 9 (by decide) (by decide));clear hd
      try dsimp only at hK
      generalize f 9=x9 at e9 hK ⊢;subst e9;obtain⟨p0,p1⟩:=HKN.o W2 (hI.o.grow hb).i.b;go_simp
      exact hK _ _ (Below.refl _ _) (fun V _ _ _ _=>rfl)
     ·intro f lo hi W2 hb hd K hK;rw[if_pos (by rfl)];have e0:f 0=_:=(hd 0 (by decide) (by decide));have e10:f 10=_:=(hd 10 (by decide) (by decide));clear hd
      try dsimp only at hK
      generalize f 0=x0 at e0 hK ⊢;generalize f 10=x10 at e10 hK ⊢;subst e0;subst e10;go_simp
      refine(HSJ.o W2).mono ?_;rintro e w2 ⟨rfl,hb2⟩;exact hK _ _ hb2 (fun V _ _ _ _=>rfl)
     ·intro f lo hi W2 hb hd K hK;rw[if_pos (by rfl)];have e11:f 11=_:=(hd 11 (by decide) (by decide));clear hd
      try dsimp only at hK
      generalize f 11=x11 at e11 hK ⊢;subst e11;go_simp
      refine(HUJ.o W2).mono ?_;rintro e w2 ⟨rfl,hb2⟩;exact hK _ _ hb2 (fun V _ _ _ _=>rfl)
     ·intro f lo hi W2 hb hd K hK;rw[if_pos (by rfl)];have e12:f 12=_:=(hd 12 (by decide) (by decide));clear hd
      try dsimp only at hK
      generalize f 12=x12 at e12 hK ⊢;subst e12;go_simp
      exact hK _ _ (Below.refl _ _) (fun V _ _ _ _=>rfl)
     ·intro f lo hi W2 hb hd K hK;rw[if_pos (by rfl)];have e13:f 13=_:=(hd 13 (by decide) (by decide));clear hd
      try dsimp only at hK
      generalize f 13=x13 at e13 hK ⊢;subst e13;go_simp
      exact hK _ _ (Below.refl _ _) (fun V _ _ _ _=>rfl)
     ·intro f lo hi W2 hb hd K hK;rw[if_pos (by rfl)];have e13:f 13=_:=(hd 13 (by decide) (by decide));clear hd
      try dsimp only at hK
      generalize f 13=x13 at e13 hK ⊢;subst e13;go_simp
      exact hK _ _ (Below.refl _ _) (fun V _ _ _ _=>rfl)
     ·intro f lo hi W2 hb hd K hK;rw[if_pos (by rfl)];have e13:f 13=_:=(hd 13 (by decide) (by decide));clear hd
      try dsimp only at hK
      generalize f 13=x13 at e13 hK ⊢;subst e13;go_simp
      exact hK _ _ (Below.refl _ _) (fun V _ _ _ _=>rfl)
     ·intro f lo hi W2 hb hd K hK;rw[if_pos (by rfl)];have e14:f 14=_:=(hd 14 (by decide) (by decide));clear hd
      try dsimp only at hK
      generalize f 14=x14 at e14 hK ⊢;subst e14;go_simp
      exact hK _ _ (Below.refl _ _) (fun V _ _ _ _=>rfl)
     ·intro f lo hi W2 hb hd K hK;rw[if_pos (by rfl)];have e15:f 15=_:=(hd 15 (by decide) (by decide));clear hd
      try dsimp only at hK
      generalize f 15=x15 at e15 hK ⊢;subst e15;go_simp
      exact hK _ _ (Below.refl _ _) (fun V _ _ _ _=>rfl)
     ·intro f lo hi W2 hb hd K hK;rw[if_pos (by rfl)];have e16:f 16=_:=(hd 16 (by decide) (by decide));clear hd
      try dsimp only at hK
      generalize f 16=x16 at e16 hK ⊢;subst e16;go_simp
      exact hK _ _ (Below.refl _ _) (fun V _ _ _ _=>rfl)
    case he_k=>
     intro f lo hi W2 hb hR hbx hk;have e17:f 17=_:=hR 17 (by decide);have e18:f 18=_:=hR 18 (by decide);have e19:f 19=_:=hR 19 (by decide);clear hR hbx hk;have HI8:=hq (hI.o.grow hb);clear hI HSJ HUJ HKN hb;generalize f 17=x17 at *;generalize f 18=x18 at *;generalize f 19=x19 at *;subst e17;subst e18;subst e19;refine zn6 ?_;obtain⟨d0,d1,d2,d3⟩:=za1 HI8.o.i.hw;obtain⟨kro,krc,krl⟩:=kr;have hkrl:krl.length<=4096:=HKLL.o;unfold SRow.v at d2;simp only at d2;obtain⟨i2,hi2,hx0,hx1,hx2⟩:=zo6 infoSd;go_wp2_with (at_builtin;refine wpList_append_own_at _ rfl _ _ 23 rfl B 9 i2 (.string ⟨#[]⟩) 1 16 Tryz.underlying23 hi2 hx0 hx1 hx2 rfl (by decide) (.slice kro krl.length krc) krl.length (strC krl) rfl (HI8.o.ks.alloc _) ⟨W2.heap.size,0,none⟩ 1 1 [.string (st u.1)] rfl rfl (zB3 _ [.string (st u.1)] _) (by simp[Value.oneCell']) (by unfold maxLen;omega) (by omega) (by rw[World.size_alloc];have:=HI8.o.sz;omega) ?_)
     intro v' w8 hown8 hgrow8 _ hat8;obtain⟨g8,c8,rfl⟩:=zo1 hown8;have HIc:=hq (HI8.o.grow (za0 W2 (.cells #[.string (st u.1)] 9)));have hw8:=(HIc.o.i.grown (B:=B) hgrow8 (fun b' e=>(HIc.o.ks.lt b' e).1) HIc.o.ld HIc.o.lr HIc.o.ln HIc.o.lv).hw;have e8a:=hw8.at_ 2;have e8b:=hw8.free 2;have HI10:=hq (HIc.o.key (x:=u.1) hown8 hgrow8 (by rw[World.size_alloc];exact hat8));have HKR:Hq ((⟨some ⟨g8,0,none⟩,c8,krl++[u.1]⟩:SRow).l=if kd=6 then ks.take (j+1) else []):=hq (by
      rw[if_pos H6.o,HTK6.o];have:=HKRL.o;simp only at this ⊢;rw[this])
     clear hown8 hgrow8 hat8 HIc hw8 HI8 HKRL HKLL d0 d1 d2 d3 hi2 hx0 hx1 hx2 HTK6 H6;go_upto_region 18 with fail
     generalize (w8.setCell ⟨gv,2,none⟩ (.slice (some ⟨g8,0,none⟩) (krl.length+1) c8))=W9 at *;generalize (⟨some ⟨g8,0,none⟩,c8,krl++[u.1]⟩:SRow)=kr2 at *;clear e8a e8b;refine zB (by kernel_rfl) [(0,84),(1,85),(2,86),(3,87),(4,88),(5,89),(6,90),(7,91),(8,92),(9,93)] [[0],[1,0],[2],[3],[4,3],[5],[6,4,3,5],[7,6,4,3,5],[8,2,7,6,4,3,5],[9,8,2,7,6,4,3,5]] [] [10,11,12] (RN18 s gd gv gn gN nv.length cN b kids.length ck j kid pp ys.length qq W9.heap.size vj) ?A_HI10 ?hA_HI10 (by kernel_rfl) ?hs_HI10 ?he_HI10
     case hA_HI10=>
      intro f;simp only[putS];go_simp
      rfl
     case hs_HI10=>
      refine Steps.cons rfl ?_ (Steps.cons rfl ?_ (Steps.cons rfl ?_ (Steps.cons rfl ?_ (Steps.cons rfl ?_ (Steps.cons rfl ?_ (Steps.cons rfl ?_ (Steps.cons rfl ?_ (Steps.cons rfl ?_ (Steps.cons rfl ?_ Steps.nil)))))))))
      ·intro f lo hi W2 hb hd K hK;rw[if_pos (by rfl)];go_simp
       exact hK _ _ (Below.refl _ _) (fun V _ _ _ _=>rfl)
      ·intro f lo hi W2 hb hd K hK;rw[if_pos (by rfl)];have e0:f 0=_:=(hd 0 (by decide) (by decide));clear hd
       try dsimp only at hK
       generalize f 0=x0 at e0 hK ⊢;subst e0;obtain⟨y0,y1,y2,y3⟩:=za1 (HI10.o.grow hb).i.hw;go_simp
       exact hK _ _ (Below.refl _ _) (fun V _ _ _ _=>rfl)
      ·intro f lo hi W2 hb hd K hK;rw[if_pos (by rfl)];have r0:=(HI10.o.grow hb).i.hd.at_ 0;have r1:=(HI10.o.grow hb).i.hd.at_ 1;go_simp
       exact hK _ _ (Below.refl _ _) (fun V _ _ _ _=>rfl)
      ·intro f lo hi W2 hb hd K hK;rw[if_pos (by rfl)];go_simp
       exact hK _ _ (Below.refl _ _) (fun V _ _ _ _=>rfl)
      ·intro f lo hi W2 hb hd K hK;rw[if_pos (by rfl)];have e3:f 3=_:=(hd 3 (by decide) (by decide));clear hd
       try dsimp only at hK
       generalize f 3=x3 at e3 hK ⊢;subst e3;obtain⟨q0,q1,q2,q3,q4,q5,q6⟩:=za9 (HI10.o.grow hb).i.hn;go_simp
       exact hK _ _ (Below.refl _ _) (fun V _ _ _ _=>rfl)
      ·intro f lo hi W2 hb hd K hK;rw[if_pos (by rfl)];go_simp
       exact hK _ _ (Below.refl _ _) (fun V _ _ _ _=>rfl)
      ·intro f lo hi W2 hb hd K hK;rw[if_pos (by rfl)];have e4:f 4=_:=(hd 4 (by decide) (by decide));have e5:f 5=_:=(hd 5 (by decide) (by decide));clear hd
       try dsimp only at hK
       generalize f 4=x4 at e4 hK ⊢;generalize f 5=x5 at e5 hK ⊢;subst e4;subst e5;go_simp
       exact hK _ _ (Below.refl _ _) (fun V _ _ _ _=>rfl)
      ·intro f lo hi W2 hb hd K hK;rw[if_pos (by rfl)];have e6:f 6=_:=(hd 6 (by decide) (by decide));clear hd
       try dsimp only at hK
       generalize f 6=x6 at e6 hK ⊢;subst e6;have k1:=HK0.o W2 (HI10.o.grow hb).i.b;go_simp
       exact hK _ _ (Below.refl _ _) (fun V _ _ _ _=>rfl)
      ·intro f lo hi W2 hb hd K hK;have e2:f 2=_:=hd 2 (by decide) (by decide);have e7:f 7=_:=hd 7 (by decide) (by decide);clear hd
       try dsimp only at hK
       generalize f 2=x2 at e2 hK ⊢;generalize f 7=x7 at e7 hK ⊢;subst e2;subst e7;rw[if_pos (by rfl)];go_simp
       refine(HC.o W2 (HI10.o.grow hb).i.b).mono ?_;rintro e w2 ⟨y,rfl,hyo,hym,hb2⟩;exact hK _ _ hb2 (fun V _ hsz hbl _=>⟨y,rfl,(own_same hyo (fun g h1 h2=>hbl g h1 h2)).base hb.size,hym⟩)
      ·intro f lo hi W2 hb hd K hK;obtain⟨y,e8,_,_⟩:=hd 8 (by decide) (by decide);have HF:Hq (∀V,(∀j'∈ [9,8,2,7,6,4,3,5],j'≠9->RN18 s gd gv gn gN nv.length cN b kids.length ck j kid pp ys.length qq W9.heap.size vj j' (f j') (lo j') (hi j') V)-> ∃y:Vt,f 8=y.v/\y.Own 26 9 W9.heap.size (fun _=>True) V/\y.m=vj):=hq (fun V h=>h 8 (by decide) (by decide));clear hd
       try dsimp only at hK
       generalize f 8=x8 at e8 HF hK ⊢;obtain⟨yk,yt,⟨yko,ykc,ykl⟩,yo,yc,yis⟩:=y;rw[Vt.v_mk']at e8;subst e8;rw[if_pos (by rfl)];go_simp
       refine hK (.slice (some ⟨W2.heap.size,0,none⟩) 1 1) _ (za0 _ _) (fun V _ _ h h2=>⟨rfl,?_⟩);obtain⟨y',h3,h4,h5⟩:=HF.o V h2;refine⟨y',?_,h4,h5⟩;obtain⟨a1,a2,⟨a3,a4,a5⟩,a6,a7,a8⟩:=y';rw[Vt.v_mk']at h3;injection h3 with h3
       have h6:=zz6 h;rw[h3]at h6;exact h6
     case he_HI10=>
      intro f lo hi W2 hb hR hbx hk;have e0:f 0=_:=hR 0 (by decide);have e1:f 1=_:=hR 1 (by decide);obtain⟨e9,y,hwy,hyo,hym⟩:=hR 9 (by decide);clear hR hbx hk;have HI2:=hq (HI10.o.grow hb);have HYO:=hq (show y.Own 26 9 B (fun g=>(Value.slice pp ys.length qq).ownBlock≠some g/\kr2.v.ownBlock≠some g) W2 from(hyo.lt.base HI10.o.sz).kind (fun g hg=>⟨fun e=>by have h1:=(HI10.o.it.lt g e).2;omega,fun e=>by have h1:=(HI10.o.ks.lt g e).2;omega⟩));have HYM:=hq hym;obtain⟨yk,yt,⟨yko,ykc,ykl⟩,yo,yc,yis⟩:=y;have HWY:=hq (show Whole W2 (slB (f 9)) 26 #[.int .i64 yk,.string (st yt),.slice yko ykl.length ykc,.slice yo yis.length yc] from hwy);clear hwy hyo hym;generalize slB (f 9)=g9 at *;generalize f 0=x0 at *;generalize f 1=x1 at *;generalize f 9=x9 at *;subst e0;subst e1;subst e9;obtain⟨i1,hi1,hy0,hy1,hy2⟩:=zo6 infoVv;refine zp6 rfl ?_;refine step_atV rfl (.tmp 85) (.tmp 93) 24 rfl B 26 i1 (.agg #[.int .i64 0,.string ⟨#[]⟩,.slice none 0 0,.slice none 0 0]) 4 72 Tryz.underlying24 hi1 hy0 hy1 hy2 rfl (by decide) (.slice pp ys.length qq) ys.length (vtC ys) (by simp[Act.eval]) HI2.o.it ⟨g9,0,none⟩ 1 1 [.int .i64 yk,.string (st yt),.slice yko ykl.length ykc,.slice yo yis.length yc] (by simp[Act.eval]) rfl (zK0 HWY.o) (by simp[Value.oneCell']) (by unfold maxLen;omega) (by omega) HI2.o.sz ?_;intro v' w6 hown6 hgrow6 hat6;obtain⟨g6,c6,rfl⟩:=zo1 hown6;have hw6:=(HI2.o.i.grown (B:=B) hgrow6 (fun b' e=>(HI2.o.it.lt b' e).1) HI2.o.ld HI2.o.lr HI2.o.ln HI2.o.lv).hw;have e6a:=hw6.at_ 3;have e6b:=hw6.free 3;have HI6:=hq (HI2.o.item (x:=Vt.mk yk yt ⟨yko,ykc,ykl⟩ yo yc yis) HYO.o hown6 hgrow6 hat6);have HYS:Hq ((ys++[Vt.mk yk yt ⟨yko,ykc,ykl⟩ yo yc yis]).map Vt.m=vs.take (j+1)):=hq (by
       rw[List.map_append,hys.o,HTKV.o,List.map_cons,List.map_nil,HYM.o])
      clear hown6 hgrow6 hat6 hw6 HI2 HYO HYM HWY hys HTKV HI10 hi1 hy0 hy1 hy2 HC HK0 hb;refine zp6 rfl ?_;rw[if_pos (by rfl)];go_simp
      refine zp6 rfl ?_;rw[if_pos (by rfl)];go_simp
      refine zn6 ?_;generalize (w6.setCell ⟨gv,3,none⟩ (.slice (some ⟨g6,0,none⟩) (ys.length+1) c6))=W7 at *;generalize (ys++[Vt.mk yk yt ⟨yko,ykc,ykl⟩ yo yc yis])=ys1 at *;clear e6a e6b;go_wp2_with fail
      go_roundw
      case rel=>exact⟨j+1,kr2,some ⟨g6,0,none⟩,c6,ys1,h,zb5 (by omega),HI6,HYS,HKR⟩
      case measure=>(try simp[intOf]);omega
  ·have hz: ¬(j:Int)<(kids.length:Int):=by omega
   have hjl:j=kids.length:=by omega
   have HYE:Hq (ys.map Vt.m=vs):=hq (by rw[hys.o,List.take_of_length_le (by have:=HVL.o;omega)]);have HKE:Hq (kr.l=if kd=6 then ks else []):=hq (by
    have h1:=hkr.o;by_cases h6:kd=6
    ·rw[if_pos h6]at h1 ⊢;rw[h1,List.take_of_length_le (by have:=(HKY.o h6).1;omega)]
    ·rw[if_neg h6]at h1 ⊢;exact h1)
   clear hys hkr HKY HLT HKC HIH hjl HSK HUN;obtain⟨d0,d1,d2,d3⟩:=za1 hI.o.i.hw;obtain⟨r0,r1,r2,r3⟩:=za1 hI.o.i.hr;have f0:=hI.o.i.hr.free 0;have f1:=hI.o.i.hr.free 1;have f2:=hI.o.i.hr.free 2;have f3:=hI.o.i.hr.free 3;obtain⟨kro,krc,krl⟩:=kr;unfold SRow.v at d2;simp only at d2;have HOUT:=hq (hI.o.out hWB (.int .i64 (kd:Int)) (.string ⟨#[]⟩) (.slice kro krl.length krc) (.slice pp ys.length qq));have HOUB:=hq (zh3 hI.o.i.b hI.o.i.lr (.int .i64 (kd:Int)) (.string ⟨#[]⟩) (.slice kro krl.length krc) (.slice pp ys.length qq));have HM:=hq (show(Vt.mk (kd:Int) [] ⟨kro,krc,krl⟩ pp qq ys).m= .mk (kd:Int) [] (if kd=6 then ks else []) vs from(Vt.m_mk _ _ _ _ _ _).trans (by rw[HYE.o];simp only;rw[←HKE.o]));have HV:=hq (HP.o (Vt.mk (kd:Int) [] ⟨kro,krc,krl⟩ pp qq ys) _ HOUT.o HM.o HOUB.o);clear HP HOUT HOUB HM HYE HKE hI;go_wp2_with fail
   refine bodyPost_ret (v:=(Vt.mk (kd:Int) [] ⟨kro,krc,krl⟩ pp qq ys).v) ?_ rfl HV.o;simp[results,Tryz.results76,go_sem,r0,r1,r2,r3,Vt.v_mk']
theorem rdocnode_any(s:ByteArray)(nv:List NV)(gN cN:Nat)(W0:World)(hs:s.size<=65536)(hD:DocR nv gN cN W0) {d k c:Nat} {v:Vl} (h:Rv s (nv.map (·.n)) d k v c):
 ∀W,Below W0.heap.size W0 W->Calls Tryz.prog 76 #[.agg #[.string s,.slice (some ⟨gN,0,none⟩) nv.length cN],.int .i64 (k:Int)] W (zl6 v W):=by
 have hle:=hD.le;have hcp:=hD.cp;have hn4:=hD.n4;unfold maxLen at hcp;have HND:=fun (W:World) (hb:Below W0.heap.size W0 W) (k:Nat) (hk:k<nv.length) (ok:Option Addr) (ck:Nat) (po:Option Addr) (pn pc:Nat) (hok:nv[k].k= .slice ok nv[k].n.kids.length ck) (hpo:nv[k].p= .slice po pn pc)=>(show Hq (∀V,Below W.heap.size W V->V.cell? ⟨gN,k*7,none⟩=some (.int .i64 (nv[k].n.kd:Int))/\V.cell? ⟨gN,k*7+1,none⟩=some (.int .i64 (nv[k].n.a:Int))/\V.cell? ⟨gN,k*7+2,none⟩=some (.int .i64 (nv[k].n.b:Int))/\V.cell? ⟨gN,k*7+3,none⟩=some (.int .i64 (nv[k].n.ka:Int))/\V.cell? ⟨gN,k*7+4,none⟩=some (.int .i64 (nv[k].n.kb:Int))/\V.cell? ⟨gN,k*7+5,none⟩=some (.slice ok nv[k].n.kids.length ck)/\V.cell? ⟨gN,k*7+6,none⟩=some (.slice po pn pc)) from hq (fun V hV=>by
  have h1:=((hD.grow hb).grow hV).node hk;rw[hok,hpo]at h1;exact h1))
 generalize hns:nv.map (·.n)=ns at h;induction h with
 | @leaf d k x h1 h2 h3=>
   intro W hb;rw[←hns]at h1;obtain⟨hk,rfl⟩:=zC4 h1;obtain⟨t,ht,hv⟩:=zH3 h2;rw[hv];obtain⟨ha,hbb,_,_,_,hkd⟩:=h2;obtain⟨ok,ck,hok,_,_,_⟩:=hD.kd k hk;obtain⟨po,pn,pc,hpo⟩:=hD.pd k hk;refine rdocleaf_any s nv gN cN k hk ⟨hle,by omega,hn4⟩ W nv[k].n.kd nv[k].n.a nv[k].n.b nv[k].n.ka nv[k].n.kb nv[k].n.kids.length ok ck po pn pc (HND W hb k hk ok ck po pn pc hok hpo) (by rw[h3];rfl) hs t ht ⟨Nat.le_of_lt ha,hbb⟩
 | @arr d k x vs cs h1 h2 h3 h4 h5 h6 ih=>
   intro W hb;rw[←hns]at h1;obtain⟨hk,rfl⟩:=zC4 h1;have hv:Vl.mk (nv[k].n.kd:Int) [] (if nv[k].n.kd=6 then [] else []) vs=Vl.mk 5 [] [] vs:=by rw[h2];rfl
   rw[←hv];have hbd:=hD.bd k hk;obtain⟨ok,ck,hok,hle',hcp',hcell⟩:=hD.kd k hk;obtain⟨po,pn,pc,hpo⟩:=hD.pd k hk;unfold maxLen at hcp';refine zC1 s nv gN cN k hk ⟨hle,by omega,hn4⟩ W nv[k].n.kd nv[k].n.a nv[k].n.b nv[k].n.ka nv[k].n.kb nv[k].n.kids ok ck po pn pc (HND W hb k hk ok ck po pn pc hok hpo) (.inl h2) hs ⟨hle',by omega,hbd.1⟩ (fun q hq'=>hbd.2.2.2.2 _ (List.getElem_mem hq')) (hq (fun q hq' V hV=> ?_)) [] vs h3 (hq (fun h=>by omega)) (hq (fun q hq' V hV=> ?_))
   ·obtain ⟨b,e1,e2⟩:=hcell q hq';exact⟨b,e1,((hb.trans (hV.mono hb.size)).cell (zz4 e2)).trans e2⟩
   ·have:=ih q hq' V (hb.trans (hV.mono hb.size));rw[zr8 _ _ hq']at this;exact this
 | @obj d k x ks vs cs h1 h2 h3 h4 h5 h6 h7 h8 h9 ih=>
   intro W hb;rw[←hns]at h1 h8;obtain⟨hk,rfl⟩:=zC4 h1;have hv:Vl.mk (nv[k].n.kd:Int) [] (if nv[k].n.kd=6 then ks else []) vs=Vl.mk 6 [] ks vs:=by rw[h2];rfl
   rw[←hv];have hbd:=hD.bd k hk;obtain⟨ok,ck,hok,hle',hcp',hcell⟩:=hD.kd k hk;obtain⟨po,pn,pc,hpo⟩:=hD.pd k hk;unfold maxLen at hcp';refine zC1 s nv gN cN k hk ⟨hle,by omega,hn4⟩ W nv[k].n.kd nv[k].n.a nv[k].n.b nv[k].n.ka nv[k].n.kb nv[k].n.kids ok ck po pn pc (HND W hb k hk ok ck po pn pc hok hpo) (.inr h2) hs ⟨hle',by omega,hbd.1⟩ (fun q hq'=>hbd.2.2.2.2 _ (List.getElem_mem hq')) (hq (fun q hq' V hV=> ?_)) ks vs h4 (hq (fun _=>⟨h3,fun q hq'=> ?_⟩)) (hq (fun q hq' V hV=> ?_))
   ·obtain ⟨b,e1,e2⟩:=hcell q hq';exact⟨b,e1,((hb.trans (hV.mono hb.size)).cell (zz4 e2)).trans e2⟩
   ·obtain ⟨y,hy1,hy2,hy3⟩:=h8 q hq';rw[zr8 _ _ hq']at hy1;obtain⟨hlt,rfl⟩:=zC4 hy1;obtain⟨ok',ck',hok',_,_,_⟩:=hD.kd _ hlt;obtain⟨po',pn',pc',hpo'⟩:=hD.pd _ hlt;have hn:=HND W hb _ hlt ok' ck' po' pn' pc' hok' hpo';exact⟨_,_,hq (fun V hV=>⟨(hn.o V hV).2.2.2.1,(hn.o V hV).2.2.2.2.1⟩),hy2,hy3⟩
   ·have:=ih q hq' V (hb.trans (hV.mono hb.size));rw[zr8 _ _ hq']at this;exact this
theorem rdocread_any(s:ByteArray)(W:World)(hs:s.size<=maxLen):Calls Tryz.prog 35 #[.string s] W (ze2 s W):=by
 have HPA:=hq (fun V (_:Below W.heap.size W V)=>rjparse_any s V hs);unfold maxLen at hs;cases hpm:zc2 s with
 |inl p=>
  obtain⟨wh,er⟩:=p;have HPQ:Hq (∀V,Below W.heap.size W V->Calls Tryz.prog 75 #[.string s] V fun e W'=>e= .returned (.tuple #[.agg #[.string ⟨#[]⟩,.slice none 0 0],.int .i64 (wh:Int),.int .i64 er])/\Below V.heap.size V W'):=hq (fun V hb=>(HPA.o V hb).mono fun e w h=>by unfold zf5 at h;rw[hpm]at h;exact h);have HP:=hq (fun (W':World)=> @rread_bad s W W' wh er hpm);have her:er≠0:=zM1 hpm;have e0:(er==0)=false:=beq_eq_false_iff_ne.2 her;generalize ze2 s W=PP at *;clear HPA hpm;have HB0:=hq (za0 W (.cells #[.int .i64 0,.string ⟨#[]⟩,.slice none 0 0,.slice none 0 0] 26));have HR0:=hq (Whole.made W 26 #[.int .i64 0,.string ⟨#[]⟩,.slice none 0 0,.slice none 0 0]);go_enter Tryz.func35,Tryz.ntmps35
  go_upto_region 1 with fail
  generalize (W.alloc (.cells #[.int .i64 0,.string ⟨#[]⟩,.slice none 0 0,.slice none 0 0] 26))=W1 at *;obtain⟨gr,HGR⟩: ∃g,Hq (W.heap.size=g):=⟨_,hq rfl⟩;rw[HGR.o]at HR0;rw[HGR.o];have hgr1:gr<W1.heap.size:=HR0.o.lt;go_wp2_with fail
  refine(HPQ.o W1 HB0.o).mono ?_;rintro e W2 ⟨rfl,hb2⟩;have HB2:=hq (HB0.o.trans (hb2.mono HB0.o.size));have HR2:=hq (HR0.o.grow hb2);go_upto_region 2 with fail
  have HB3:=hq (HB2.o.alloc HB2.o.size (.cells #[.string ⟨#[]⟩,.slice none 0 0] 78));have HR3:=hq (HR2.o.alloc (.cells #[.string ⟨#[]⟩,.slice none 0 0] 78));generalize (W2.alloc (.cells #[.string ⟨#[]⟩,.slice none 0 0] 78))=W3 at *;obtain⟨z0,z1,z2,z3⟩:=za1 HR3.o;have f0:=HR3.o.free 0;have f1:=HR3.o.free 1;have f2:=HR3.o.free 2;have f3:=HR3.o.free 3;have HV:=hq (HP.o _ (zh3 HB3.o (Nat.le_of_eq HGR.o) (.int .i64 0) (.string ⟨#[]⟩) (.slice none 0 0) (.slice none 0 0)));clear hb2 HB0 HB2 HB3 HR0 HR2 HR3 HPQ HP;go_wp2_with fail
  refine bodyPost_ret (v:= .tuple #[.agg #[.int .i64 0,.string ⟨#[]⟩,.slice none 0 0,.slice none 0 0],.int .i64 (wh:Int),.int .i64 er]) ?_ rfl HV.o;simp[results,Tryz.results35,go_sem,z0,z1,z2,z3]
 |inr ns=>
  have HPQ:Hq (∀V,Below W.heap.size W V->Calls Tryz.prog 75 #[.string s] V fun e W'=> ∃nv vN,e= .returned (.tuple #[.agg #[.string s,vN],.int .i64 (s.size:Int),.int .i64 0])/\DocIn V.heap.size nv vN W'/\nv.map NV.n=ns/\Below V.heap.size V W'):=hq (fun V hb=>(HPA.o V hb).mono fun e w h=>by unfold zf5 at h;rw[hpm]at h;exact h);obtain⟨v0,hv0⟩:=(zA7 hpm).1;have h64:=zw9 hpm;have HDR:=hq (fun (B:Nat) (V:World) (nv:List NV) (vN:Value) (hd:DocIn B nv vN V) (hn:nv.map NV.n=ns)=>(doc_r hpm hd hn).2);have HND:=hq (fun (V:World) (_:Below W.heap.size W V) (nv:List NV) (gN cN:Nat) (hD:DocR nv gN cN V) (hn:nv.map NV.n=ns)=>(show Calls Tryz.prog 76 #[.agg #[.string s,.slice (some ⟨gN,0,none⟩) nv.length cN],.int .i64 0] V (zl6 v0 V) from rdocnode_any s nv gN cN V h64 hD (k:=0) (by rw[hn];exact hv0) V (Below.refl _ _)));have HP:=hq (fun (W':World) (y:Vt)=> @rread_ok s W W' ns y v0 hpm hv0);generalize ze2 s W=PP at *;clear HPA hpm h64;have HB0:=hq (za0 W (.cells #[.int .i64 0,.string ⟨#[]⟩,.slice none 0 0,.slice none 0 0] 26));have HR0:=hq (Whole.made W 26 #[.int .i64 0,.string ⟨#[]⟩,.slice none 0 0,.slice none 0 0]);go_enter Tryz.func35,Tryz.ntmps35
  go_upto_region 1 with fail
  generalize (W.alloc (.cells #[.int .i64 0,.string ⟨#[]⟩,.slice none 0 0,.slice none 0 0] 26))=W1 at *;obtain⟨gr,HGR⟩: ∃g,Hq (W.heap.size=g):=⟨_,hq rfl⟩;rw[HGR.o]at HR0;rw[HGR.o];have hgr1:gr<W1.heap.size:=HR0.o.lt;go_wp2_with fail
  refine(HPQ.o W1 HB0.o).mono ?_;rintro e W2 ⟨nv,vN,rfl,hd2,hn2,hb2⟩;obtain⟨gN,cN,rfl,hD2⟩:=HDR.o _ _ _ _ hd2 hn2;have HB2:=hq (HB0.o.trans (hb2.mono HB0.o.size));have HR2:=hq (HR0.o.grow hb2);go_upto_region 2 with fail
  have HB3:=hq (HB2.o.alloc HB2.o.size (.cells #[.string s,.slice (some ⟨gN,0,none⟩) nv.length cN] 78));have HR3:=hq (HR2.o.alloc (.cells #[.string s,.slice (some ⟨gN,0,none⟩) nv.length cN] 78));have HD3:=hq (hD2.grow (za0 W2 (.cells #[.string s,.slice (some ⟨gN,0,none⟩) nv.length cN] 78)));have HX3:=hq (Whole.made W2 78 #[.string s,.slice (some ⟨gN,0,none⟩) nv.length cN]);generalize (W2.alloc (.cells #[.string s,.slice (some ⟨gN,0,none⟩) nv.length cN] 78))=W3 at *;generalize W2.heap.size=gd at *;have x0:=HX3.o.at_ 0;have x1:=HX3.o.at_ 1;clear hd2 hD2 HDR;go_wp2_with fail
  refine(HND.o W3 HB3.o nv gN cN HD3.o hn2).mono ?_;rintro e w9 ⟨y,rfl,hyo,hym,hb9⟩;have hgr3:gr<W3.heap.size:=HR3.o.lt;obtain⟨yk,yt,⟨yko,ykc,ykl⟩,yo,yc,yis⟩:=y;rw[Vt.v_mk'];have HB9:=hq (HB3.o.trans (hb9.mono HB3.o.size));have HR9:=hq (HR3.o.grow hb9);have HY9:=hq hyo;obtain⟨z0,z1,z2,z3⟩:=za1 HR9.o;have f0:=HR9.o.free 0;have f1:=HR9.o.free 1;have f2:=HR9.o.free 2;have f3:=HR9.o.free 3;have HV:=hq (HP.o _ (Vt.mk yk yt ⟨yko,ykc,ykl⟩ yo yc yis) ((zp1 HY9.o hgr3 (.int .i64 yk) (.string (st yt)) (.slice yko ykl.length ykc) (.slice yo yis.length yc)).base (show W.heap.size<=W3.heap.size from HB3.o.size)) hym (zh3 HB9.o (Nat.le_of_eq HGR.o) (.int .i64 yk) (.string (st yt)) (.slice yko ykl.length ykc) (.slice yo yis.length yc)));clear hyo hym hb9 HB9 HY9 HP HB0 HR0 HB2 HR2 HND HPQ hb2;go_wp2_with fail
  refine bodyPost_ret (v:= .tuple #[(Vt.mk yk yt ⟨yko,ykc,ykl⟩ yo yc yis).v,.int .i64 (s.size:Int),.int .i64 0]) ?_ rfl HV.o;simp[results,Tryz.results35,go_sem,z0,z1,z2,z3,Vt.v_mk']
end Go.Proofs.YtkafjblfjdpdaaaGreatDoor
