/-
  WALKS of reading: a leaf's value, a member's key.
  WALKS of reading: a Doc in memory; a member's key.
  What a reader of values holds between two rounds.
  WALK of reading: an array or an object, over its kids.
-/
import Derived.Test.YtkafjblfjdpdaaaGreatDoorVtUB
import Derived.Test.YtkafjblfjdpdaaaGreatDoorJsa
import Derived.Test.YtkafjblfjdpdaaaGreatDoorFlw
import Derived.Test.YtkafjblfjdpdaaaGreatDoorVsC
set_option maxHeartbeats 32000000
set_option maxRecDepth 1000000
namespace Go.Proofs.YtkafjblfjdpdaaaGreatDoor
open Go.RowKit
def LeafT(kd:Nat)(s:ByteArray)(t:Bs):Prop:=(kd=1/\t=[])\/(kd=2/\t=s.data.toList)\/(kd=3/\(zb3 s.data.toList).2=0/\t=zk9 (zb3 s.data.toList).1)\/(kd=4/\(zb4 s).2.2=0/\t=(zb4 s).1)
theorem zh3 {B:Nat} {w W:World} (h:Below B w W) {g:Nat} (hg:B<=g)(a b c d:Value):Below B w ((((W.setCell ⟨g,0,none⟩ a).setCell ⟨g,1,none⟩ b).setCell ⟨g,2,none⟩ c).setCell ⟨g,3,none⟩ d):=zg5 h hg a b c d
theorem rdleaf_any(kd:Nat)(s:ByteArray)(t:Bs)(W:World)(hE:Env W)(hs:s.size<=1099511627776)(hk:LeafT kd s t):
 Calls Tryz.prog 155 #[.int .i64 (kd:Int),.string s] W fun e W'=>e= .returned (.tuple #[.agg #[.int .i64 (kd:Int),.string (st t),.slice none 0 0,.slice none 0 0],.bool true])/\Below W.heap.size W W':=by
 have HPA:=hq (fun V=>zy2 s V hs);have HUN:=hq (fun V (h:Below W.heap.size W V)=>zr s V (hE.grow h).tab hs);have HTX:Hq (∀d:Dec,d.right=true-> ∀V,Below W.heap.size W V->Calls Tryz.prog 43 #[.agg #[.bool d.neg,.string (st d.digits),.int .i64 d.exp]] V fun e w'=>e= .returned (.string (st (zk9 d)))/\Below V.heap.size V w'):=hq (fun d hr V hV=>by
  have hbd:= @zm2 d.neg d.digits d.exp hr;exact zD1 d.neg d.digits d.exp V (by omega) (by omega) (fun _=>(hE.its.grow hV) d.exp (by omega) (by omega)) (zj7 d.exp (by omega) (by omega)))
 have HP:Hq (∀W',Below W.heap.size W W'->(fun (e:Ending) (W':World)=>e= .returned (.tuple #[.agg #[.int .i64 (kd:Int),.string (st t),.slice none 0 0,.slice none 0 0],.bool true])/\Below W.heap.size W W') (.returned (.tuple #[.agg #[.int .i64 (kd:Int),.string (st t),.slice none 0 0,.slice none 0 0],.bool true])) W'):=hq (fun W' h=>⟨rfl,h⟩);generalize (fun (e:Ending) (W':World)=>e= .returned (.tuple #[.agg #[.int .i64 (kd:Int),.string (st t),.slice none 0 0,.slice none 0 0],.bool true])/\Below W.heap.size W W')=PP at *;have HB0:=hq (za0 W (.cells #[.int .i64 0,.string ⟨#[]⟩,.slice none 0 0,.slice none 0 0] 26));have HW0:=hq (Whole.made W 26 #[.int .i64 0,.string ⟨#[]⟩,.slice none 0 0,.slice none 0 0]);clear hE;go_enter Tryz.func155,Tryz.ntmps155
 go_upto_region 1 with fail
 obtain⟨g,HG⟩: ∃g,Hq (g=W.heap.size):=⟨_,hq rfl⟩;rw[←HG.o]at HW0 ⊢;generalize (W.alloc (.cells #[.int .i64 0,.string ⟨#[]⟩,.slice none 0 0,.slice none 0 0] 26))=V0 at *;have HPUT:=hq (fun V (h:Below W.heap.size W V) a b c d=>zg5 h (show W.heap.size<=g by rw[HG.o];exact Nat.le_refl _) a b c d);obtain⟨z0,z1,z2,z3⟩:=za1 HW0.o;have f0:=HW0.o.free 0;have f1:=HW0.o.free 1;have f2:=HW0.o.free 2;have f3:=HW0.o.free 3;rcases hk with ⟨rfl,rfl⟩|⟨rfl,rfl⟩|⟨rfl,h1,rfl⟩|⟨rfl,h1,rfl⟩
 ·have HV:=hq (HP.o _ (HPUT.o _ HB0.o (.int .i64 1) (.string ⟨#[]⟩) (.slice none 0 0) (.slice none 0 0)));clear HP HTX HUN HPA;go_wp2_with fail
  refine bodyPost_ret (v:= .tuple #[.agg #[.int .i64 1,.string ⟨#[]⟩,.slice none 0 0,.slice none 0 0],.bool true]) ?_ rfl HV.o;simp[results,Tryz.results155,go_sem,z0,z1,z2,z3]
 ·have hst:st s.data.toList=s:=zo7 (by simp);rw[hst]at HP;have HV:=hq (HP.o _ (HPUT.o _ HB0.o (.int .i64 2) (.string s) (.slice none 0 0) (.slice none 0 0)));clear HP HTX HUN HPA hst;go_wp2_with fail
  refine bodyPost_ret (v:= .tuple #[.agg #[.int .i64 2,.string s,.slice none 0 0,.slice none 0 0],.bool true]) ?_ rfl HV.o;simp[results,Tryz.results155,go_sem,z0,z1,z2,z3]
 ·have hpr:=zg7 (l:=s.data.toList) (m:=(zb3 s.data.toList).1) (by rw[←h1]);have HTD:=hq (HTX.o _ hpr);generalize zb3 s.data.toList=R at *;obtain⟨⟨neg,D,E⟩,er⟩:=R;simp only at h1;subst h1;generalize hTM:zk9 ⟨neg,D,E⟩=TM at *;have hTM':=hq hTM;clear HTX HUN hpr hTM;go_wp2_with fail
  refine(HPA.o _).mono ?_;rintro e w2 ⟨rfl,hb2⟩;have HB2:=hq (za HB0.o hb2);have HW2:=hq (HW0.o.grow hb2);clear HPA hb2 z0 z1 z2 z3 f0 f1 f2 f3;simp only[Dec.val];go_upto_region 8 with fail
  have HB3:=hq (za HB2.o (za0 w2 (.cells #[.bool neg,.string (st D),.int .i64 E] 59)));have HW3:=hq (HW2.o.grow (za0 w2 (.cells #[.bool neg,.string (st D),.int .i64 E] 59)));obtain⟨n0,n1,n2⟩:=za2 (Whole.made w2 59 #[.bool neg,.string (st D),.int .i64 E]);generalize w2.alloc (.cells #[.bool neg,.string (st D),.int .i64 E] 59)=W3 at *;generalize w2.heap.size=gn at *;go_wp2_with fail
  refine(HTD.o W3 HB3.o).mono ?_;rintro e w4 ⟨rfl,hb4⟩;have HB4:=hq (za HB3.o hb4);have hw4:=HW3.o.grow hb4;obtain⟨z0,z1,z2,z3⟩:=za1 hw4;have f0:=hw4.free 0;have f1:=hw4.free 1;have f2:=hw4.free 2;have f3:=hw4.free 3;have HV:=hq (HP.o _ (HPUT.o _ HB4.o (.int .i64 3) (.string (st TM)) (.slice none 0 0) (.slice none 0 0)));clear HP HTD hb4 hw4;go_wp2_with fail
  refine bodyPost_ret (v:= .tuple #[.agg #[.int .i64 3,.string (st TM),.slice none 0 0,.slice none 0 0],.bool true]) ?_ rfl HV.o;simp[results,Tryz.results155,go_sem,z0,z1,z2,z3]
 ·generalize zb4 s=U at *;obtain⟨ub,up,ue⟩:=U;simp only at h1;subst h1;clear HTX HPA;go_wp2_with fail
  refine(HUN.o V0 HB0.o).mono ?_;rintro e w2 ⟨rfl,hb2⟩;have HB2:=hq (za HB0.o hb2);have hw2:=HW0.o.grow hb2;clear z0 z1 z2 z3 f0 f1 f2 f3 hb2 HUN;obtain⟨z0,z1,z2,z3⟩:=za1 hw2;have f0:=hw2.free 0;have f1:=hw2.free 1;have f2:=hw2.free 2;have f3:=hw2.free 3;have HV:=hq (HP.o _ (HPUT.o _ HB2.o (.int .i64 4) (.string (st ub)) (.slice none 0 0) (.slice none 0 0)));clear HP hw2;go_wp2_with fail
  refine bodyPost_ret (v:= .tuple #[.agg #[.int .i64 4,.string (st ub),.slice none 0 0,.slice none 0 0],.bool true]) ?_ rfl HV.o;simp[results,Tryz.results155,go_sem,z0,z1,z2,z3]
theorem zz6 {W V:World} {T:TypeId} {cs:Array Value} (h: ∀b,W.heap.size<=b->b<(W.alloc (.cells cs T)).heap.size->V.heap[b]?=(W.alloc (.cells cs T)).heap[b]?):Whole V W.heap.size T cs:=
 (h _ (Nat.le_refl _) (by rw[World.size_alloc];omega)).trans (heap_alloc_new W _)
theorem zz4 {w:World} {a:Addr} {v:Value} (h:w.cell? a=some v):a.block<w.heap.size:=by
 by_cases hb:a.block<w.heap.size
 ·exact hb
 ·unfold World.cell? at h;rw[Array.getElem?_eq_none (by omega)]at h;cases h
structure DocR(nv:List NV)(g c:Nat)(W:World):Prop where
 le:nv.length<=c
 cp:c<=maxLen
 n4:nv.length<=4096
 nd: ∀i (h:i<nv.length) j,j<7->W.cell? ⟨g,i*7+j,none⟩=(ze nv[i])[j]?
 kd: ∀i (h:i<nv.length),∃o c,nv[i].k= .slice o nv[i].n.kids.length c/\nv[i].n.kids.length<=c/\c<=maxLen/\ ∀q (hq:q<nv[i].n.kids.length),∃b,o=some ⟨b,0,none⟩/\W.cell? ⟨b,q,none⟩=some (.int .i64 (nv[i].n.kids[q]:Int))
 pd: ∀i (h:i<nv.length),∃o n c,nv[i].p= .slice o n c
 bd: ∀i (h:i<nv.length),nv[i].n.kids.length<=4096/\nv[i].n.kd<=6/\nv[i].n.b<=65536/\nv[i].n.a<=65536/\ ∀x∈nv[i].n.kids,x<nv.length
theorem nodeC_some(x:NV) {j:Nat} (h:j<7): ∃u,(ze x)[j]?=some u:=by
 refine⟨(ze x)[j]'(by simp[ze];omega),List.getElem?_eq_getElem _⟩
theorem DocR.grow {nv:List NV} {g c:Nat} {W W':World} (h:DocR nv g c W)(hb:Below W.heap.size W W'):DocR nv g c W':=
 ⟨h.le,h.cp,h.n4,fun i hi j hj=>by
  obtain⟨u,hu⟩:=nodeC_some nv[i] hj;have h1:=(h.nd i hi j hj).trans hu;rw[hu];exact(hb.cell (zz4 h1)).trans h1,fun i hi=>by
  obtain⟨o,c,h1,h2,h3,h4⟩:=h.kd i hi;exact⟨o,c,h1,h2,h3,fun q hq=>by
   obtain⟨b,h5,h6⟩:=h4 q hq;exact⟨b,h5,(hb.cell (zz4 h6)).trans h6⟩⟩,h.pd,h.bd⟩
theorem DocR.node {nv:List NV} {g c:Nat} {W:World} (h:DocR nv g c W) {i:Nat} (hi:i<nv.length):
 W.cell? ⟨g,i*7,none⟩=some (.int .i64 (nv[i].n.kd:Int))/\W.cell? ⟨g,i*7+1,none⟩=some (.int .i64 (nv[i].n.a:Int))/\W.cell? ⟨g,i*7+2,none⟩=some (.int .i64 (nv[i].n.b:Int))/\W.cell? ⟨g,i*7+3,none⟩=some (.int .i64 (nv[i].n.ka:Int))/\W.cell? ⟨g,i*7+4,none⟩=some (.int .i64 (nv[i].n.kb:Int))/\W.cell? ⟨g,i*7+5,none⟩=some nv[i].k/\W.cell? ⟨g,i*7+6,none⟩=some nv[i].p:=
 ⟨h.nd i hi 0 (by decide),h.nd i hi 1 (by decide),h.nd i hi 2 (by decide),h.nd i hi 3 (by decide),h.nd i hi 4 (by decide),h.nd i hi 5 (by decide),h.nd i hi 6 (by decide)⟩
theorem str_unq {s:ByteArray} {a b:Nat} (h:zC8 s a b):(zb4 (s.extract a b)).2.2=0:=by
 obtain⟨h1,h2,h3⟩:=h;have hz:(s.extract a b).size=b-a:=by rw[ByteArray.size_extract];omega
 have he: ∀j,j<b-a->byt (s.extract a b) (0+j)=byt s (a+j):=fun j hj=>by
  rw[Nat.zero_add,zb6 _ _ (by rw[hz];exact hj),zb6 _ _ (by omega),ByteArray.getElem_extract]
 have h34:byt s a=34/\zb7 s a=(b,0,(zb7 s a).2.2):=by
  unfold oneM at h3;simp only at h3;split at h3
  ·rename_i hc;have h4:=congrArg Prod.fst h3;simp only at h4;unfold zn8 at h4;exfalso;revert h4
   repeat' split
   all_goals omega
  ·split at h3
   ·cases h3
   ·split at h3
    ·rename_i hc;refine⟨hc,?_⟩;have h4:=congrArg (fun x=>x.2.1) h3;have h5:=congrArg (fun x=>x.2.2) h3;simp only at h4 h5;rw[←h4,←h5]
    ·split at h3
     ·split at h3<;>cases h3
     ·split at h3
      ·have h4:=congrArg Prod.fst h3;simp only at h4;unfold zp4 at h4;exfalso;revert h4
       repeat' split
       all_goals omega
      ·cases h3
 have hsc:=scanM_same (t:=s.extract a b) (q:=0) h34.2 (by rw[hz];omega) he;rw[Nat.zero_add]at hsc;unfold zb4;rw[hsc];simp only;rw[if_neg (by omega),if_neg (by rw[hz];omega)]
theorem zD3 {s:ByteArray} {a b:Nat} (h:a<=b)(hb:b<=s.size):zx8 s (a:Int) (b:Int)=s.extract a b:=by
 unfold zx8 zJ
 first
  |(rw[if_neg (by omega)];simp;done)
  |(rw[if_pos (by omega)];simp;done)
  |(simp;omega)
def RK(s:ByteArray)(bd g c n k ka kb:Nat)(u:Bs×Nat×Int)(i:Nat)(v:Value)(_ _:Nat)(_:World):Prop:=match i with
 |0=>v= .agg #[.string s,.slice (some ⟨g,0,none⟩) n c]
 |1=>v= .pointer (some ⟨bd,1,none⟩)
 |2=>v= .slice (some ⟨g,0,none⟩) n c
 |3=>v= .int .i64 (k:Int)
 |4=>v= .pointer (some ⟨g,k*7,none⟩)
 |5=>v= .pointer (some ⟨g,k*7+3,none⟩)
 |6=>v= .agg #[.int .i64 (ka:Int),.int .i64 (kb:Int)]
 |7=>v= .string (s.extract ka kb)
 |8=>v= .tuple #[.string (st u.1),.int .i64 (u.2.1:Int),.int .i64 u.2.2]
 |9=>v= .tuple #[.string (st u.1),.int .i64 (u.2.1:Int),.int .i64 u.2.2]
 |10=>v= .string (st u.1)
 |11=>v= .int .i64 (u.2.1:Int)
 |12=>v= .int .i64 u.2.2
 |13=>v= .string (st u.1)
 |14=>v= .int .i64 (u.2.1:Int)
 |15=>v= .int .i64 u.2.2
 |_=>True
theorem rdkey_any(s:ByteArray)(nv:List NV)(g c k:Nat)(W:World)(hE:Env W)(hs:s.size<=65536)(hd:DocR nv g c W)(hk:k<nv.length)(hso:zC8 s nv[k].n.ka nv[k].n.kb):
 Calls Tryz.prog 193 #[.agg #[.string s,.slice (some ⟨g,0,none⟩) nv.length c],.int .i64 (k:Int)] W fun e W'=>e= .returned (.tuple #[.string (st (za3 s nv[k].n.ka nv[k].n.kb)),.bool true])/\Below W.heap.size W W':=by
 have hle:=hd.le;have hcp:=hd.cp;unfold maxLen at hcp;obtain⟨hka,hkb⟩:nv[k].n.ka<=65536/\nv[k].n.kb<=65536:=⟨by have:=hso.1;have:=hso.2.1;omega,by have:=hso.2.1;omega⟩;have HSL:=hq (fun V=>zM s (.slice (some ⟨g,0,none⟩) nv.length c) ⟨_,_,_,rfl⟩ (nv[k].n.ka:Int) (nv[k].n.kb:Int) V (by unfold maxLen;omega) ⟨by omega,by omega⟩ ⟨by omega,by omega⟩);rw[zD3 (Nat.le_of_lt hso.1) hso.2.1]at HSL;have hu0:=str_unq hso;have HUN:=hq (fun V (h:Below W.heap.size W V)=>zr (s.extract nv[k].n.ka nv[k].n.kb) V (hE.grow h).tab (by rw[ByteArray.size_extract];omega));have HKT:Hq (za3 s nv[k].n.ka nv[k].n.kb=(zb4 (s.extract nv[k].n.ka nv[k].n.kb)).1):=hq rfl;have HP:Hq (∀(q:Bs) W',q=za3 s nv[k].n.ka nv[k].n.kb->Below W.heap.size W W'->(fun (e:Ending) (W':World)=>e= .returned (.tuple #[.string (st (za3 s nv[k].n.ka nv[k].n.kb)),.bool true])/\Below W.heap.size W W') (.returned (.tuple #[.string (st q),.bool true])) W'):=hq (fun q W' h1 h2=>by rw[h1];exact⟨rfl,h2⟩);generalize (fun (e:Ending) (W':World)=>e= .returned (.tuple #[.string (st (za3 s nv[k].n.ka nv[k].n.kb)),.bool true])/\Below W.heap.size W W')=PP at *;have HND:=hq (fun V (h:Below W.heap.size W V)=>(hd.grow h).node hk);have hkl:(k:Int)<(nv.length:Int):=by omega
 have hk0: ¬(k:Int)<0:=by omega
 have hkd:decide ((k:Int)<0)=false:=decide_eq_false hk0;have hkg:decide ((nv.length:Int)<=(k:Int))=false:=decide_eq_false (by omega);generalize za3 s nv[k].n.ka nv[k].n.kb=KT at *;generalize zb4 (s.extract nv[k].n.ka nv[k].n.kb)=U at *;generalize hka':nv[k].n.ka=ka at *;generalize hkb':nv[k].n.kb=kb at *;generalize nv[k].n.kd=kdd at *;generalize nv[k].n.a=na at *;generalize nv[k].n.b=nb at *;generalize nv[k].k=vk at *;generalize nv[k].p=vp at *;clear hE hd hso hka' hkb';have HB0:=hq (za0 W (.cells #[.string s,.slice (some ⟨g,0,none⟩) nv.length c] 78));have HW0:=hq (Whole.made W 78 #[.string s,.slice (some ⟨g,0,none⟩) nv.length c]);go_enter Tryz.func193,Tryz.ntmps193
 go_upto_region 1 with fail
 generalize (W.alloc (.cells #[.string s,.slice (some ⟨g,0,none⟩) nv.length c] 78))=V0 at *;obtain⟨bd,HBD⟩: ∃b,Hq (b=W.heap.size):=⟨_,hq rfl⟩;rw[←HBD.o]at HW0 ⊢;have c0:=HW0.o.at_ 0;have c1:=HW0.o.at_ 1;go_upto_region 3 with fail
 obtain⟨ub,up,ue⟩:=U;simp only at hu0;subst hu0;refine zB (by kernel_rfl) [(0,19),(1,20),(2,21),(3,22),(4,23),(5,24),(6,25),(7,26),(8,27),(9,18),(10,28),(11,29),(12,30),(13,6),(14,7),(15,8)] [[0],[1],[2,1],[3],[4,2,1,3],[5,4,2,1,3],[6,5,4,2,1,3],[7,0,6,5,4,2,1,3],[8,7,0,6,5,4,2,1,3],[9,8,7,0,6,5,4,2,1,3],[10,9,8,7,0,6,5,4,2,1,3],[11,9,8,7,0,6,5,4,2,1,3],[12,9,8,7,0,6,5,4,2,1,3],[13,10,9,8,7,0,6,5,4,2,1,3],[14,11,9,8,7,0,6,5,4,2,1,3],[15,12,9,8,7,0,6,5,4,2,1,3]] [] [] (RK s bd g c nv.length k ka kb (ub,up,0)) ?A ?hA (by kernel_rfl) ?hs ?he
 case hA=>
  intro f;simp only[putS];go_simp
  rfl
 case hs=>
  refine Steps.cons rfl ?_ (Steps.cons rfl ?_ (Steps.cons rfl ?_ (Steps.cons rfl ?_ (Steps.cons rfl ?_ (Steps.cons rfl ?_ (Steps.cons rfl ?_ (Steps.cons rfl ?_ (Steps.cons rfl ?_ (Steps.cons rfl ?_ (Steps.cons rfl ?_ (Steps.cons rfl ?_ (Steps.cons rfl ?_ (Steps.cons rfl ?_ (Steps.cons rfl ?_ (Steps.cons rfl ?_ Steps.nil)))))))))))))))
  ·intro f lo hi W2 hb hd K hK;rw[if_pos (by rfl)];have c0:=(HW0.o.grow hb).at_ 0;have c1:=(HW0.o.grow hb).at_ 1;go_simp
   exact hK _ _ (Below.refl _ _) (fun V _ _ _ _=>rfl)
  ·intro f lo hi W2 hb hd K hK;rw[if_pos (by rfl)];go_simp
   exact hK _ _ (Below.refl _ _) (fun V _ _ _ _=>rfl)
  ·intro f lo hi W2 hb hd K hK;rw[if_pos (by rfl)];have e1:f 1=_:=(hd 1 (by decide) (by decide));clear hd
   try dsimp only at hK
   generalize f 1=x1 at e1 hK ⊢;subst e1;have c0:=(HW0.o.grow hb).at_ 0;have c1:=(HW0.o.grow hb).at_ 1;go_simp
   exact hK _ _ (Below.refl _ _) (fun V _ _ _ _=>rfl)
  ·intro f lo hi W2 hb hd K hK;rw[if_pos (by rfl)];go_simp
   exact hK _ _ (Below.refl _ _) (fun V _ _ _ _=>rfl)
  ·intro f lo hi W2 hb hd K hK;rw[if_pos (by rfl)];have e2:f 2=_:=(hd 2 (by decide) (by decide));have e3:f 3=_:=(hd 3 (by decide) (by decide));clear hd
   try dsimp only at hK
   generalize f 2=x2 at e2 hK ⊢;generalize f 3=x3 at e3 hK ⊢;subst e2;subst e3;go_simp
   exact hK _ _ (Below.refl _ _) (fun V _ _ _ _=>rfl)
  ·intro f lo hi W2 hb hd K hK;rw[if_pos (by rfl)];have e4:f 4=_:=(hd 4 (by decide) (by decide));clear hd
   try dsimp only at hK
   generalize f 4=x4 at e4 hK ⊢;subst e4;go_simp
   exact hK _ _ (Below.refl _ _) (fun V _ _ _ _=>rfl)
  ·intro f lo hi W2 hb hd K hK;rw[if_pos (by rfl)];have e5:f 5=_:=(hd 5 (by decide) (by decide));clear hd
   try dsimp only at hK
   generalize f 5=x5 at e5 hK ⊢;subst e5;obtain⟨n0,n1,n2,n3,n4,n5,n6⟩:=HND.o W2 (za HB0.o hb);go_simp
   exact hK _ _ (Below.refl _ _) (fun V _ _ _ _=>rfl)
  ·intro f lo hi W2 hb hd K hK;rw[if_pos (by rfl)];have e0:f 0=_:=(hd 0 (by decide) (by decide));have e6:f 6=_:=(hd 6 (by decide) (by decide));clear hd
   try dsimp only at hK
   generalize f 0=x0 at e0 hK ⊢;generalize f 6=x6 at e6 hK ⊢;subst e0;subst e6;go_simp
   refine(HSL.o W2).mono ?_;rintro e w2 ⟨rfl,hb2⟩;exact hK _ _ hb2 (fun V _ _ _ _=>rfl)
  ·intro f lo hi W2 hb hd K hK;rw[if_pos (by rfl)];have e7:f 7=_:=(hd 7 (by decide) (by decide));clear hd
   try dsimp only at hK
   generalize f 7=x7 at e7 hK ⊢;subst e7;go_simp
   refine(HUN.o W2 (za HB0.o hb)).mono ?_;rintro e w2 ⟨rfl,hb2⟩;exact hK _ _ hb2 (fun V _ _ _ _=>rfl)
  ·intro f lo hi W2 hb hd K hK;rw[if_pos (by rfl)];have e8:f 8=_:=(hd 8 (by decide) (by decide));clear hd
   try dsimp only at hK
   generalize f 8=x8 at e8 hK ⊢;subst e8;go_simp
   exact hK _ _ (Below.refl _ _) (fun V _ _ _ _=>rfl)
  ·intro f lo hi W2 hb hd K hK;rw[if_pos (by rfl)];have e9:f 9=_:=(hd 9 (by decide) (by decide));clear hd
   try dsimp only at hK
   generalize f 9=x9 at e9 hK ⊢;subst e9;go_simp
   exact hK _ _ (Below.refl _ _) (fun V _ _ _ _=>rfl)
  ·intro f lo hi W2 hb hd K hK;rw[if_pos (by rfl)];have e9:f 9=_:=(hd 9 (by decide) (by decide));clear hd
   try dsimp only at hK
   generalize f 9=x9 at e9 hK ⊢;subst e9;go_simp
   exact hK _ _ (Below.refl _ _) (fun V _ _ _ _=>rfl)
  ·intro f lo hi W2 hb hd K hK;rw[if_pos (by rfl)];have e9:f 9=_:=(hd 9 (by decide) (by decide));clear hd
   try dsimp only at hK
   generalize f 9=x9 at e9 hK ⊢;subst e9;go_simp
   exact hK _ _ (Below.refl _ _) (fun V _ _ _ _=>rfl)
  ·intro f lo hi W2 hb hd K hK;rw[if_pos (by rfl)];have e10:f 10=_:=(hd 10 (by decide) (by decide));clear hd
   try dsimp only at hK
   generalize f 10=x10 at e10 hK ⊢;subst e10;go_simp
   exact hK _ _ (Below.refl _ _) (fun V _ _ _ _=>rfl)
  ·intro f lo hi W2 hb hd K hK;rw[if_pos (by rfl)];have e11:f 11=_:=(hd 11 (by decide) (by decide));clear hd
   try dsimp only at hK
   generalize f 11=x11 at e11 hK ⊢;subst e11;go_simp
   exact hK _ _ (Below.refl _ _) (fun V _ _ _ _=>rfl)
  ·intro f lo hi W2 hb hd K hK;rw[if_pos (by rfl)];have e12:f 12=_:=(hd 12 (by decide) (by decide));clear hd
   try dsimp only at hK
   generalize f 12=x12 at e12 hK ⊢;subst e12;go_simp
   exact hK _ _ (Below.refl _ _) (fun V _ _ _ _=>rfl)
 case he=>
  intro f lo hi W2 hb hR hbx hk;have e13:f 13=_:=hR 13 (by decide);have e14:f 14=_:=hR 14 (by decide);have e15:f 15=_:=hR 15 (by decide);clear hR hbx hk;have HB:=hq (za HB0.o hb);generalize f 13=x13 at *;generalize f 14=x14 at *;generalize f 15=x15 at *;subst e13;subst e14;subst e15;refine zn6 ?_;have HV:=hq (HP.o ub W2 HKT.o.symm HB.o);clear HP HND HSL HUN HB0 HW0 c0 c1 hb;go_wp2_with fail
  first
   |exact HV.o
   |(go_ret2
     exact HV.o)
   |(go_ret
     exact HV.o)
   |trace_state
def zu(gR:Nat)(rc:Array Value)(v:Vl)(W:World)(e:Ending)(W':World):Prop:=
 ∃y:Vt,e= .returned (.tuple #[y.v,.bool true])/\y.Own 26 9 W.heap.size (fun _=>True) W'/\y.m=v/\Whole W' gR 136 rc/\W.grownBy W' (some gR)
structure LdI(W0:World)(B:Nat)(W:World)(gn gr gv:Nat)(cn:Array Value)(kz:Int)(kr:SRow)(o:Option Addr)(c:Nat)(ys:List Vt)(rc:Array Value)(w:World):Prop where
 b0:Below W0.heap.size W0 w
 bl:W.grownBy w (some W0.heap.size)
 sz:B<=w.heap.size
 rd:Whole w W0.heap.size 136 rc
 hn:Whole w gn 149 cn
 hr:Whole w gr 26 #[.int .i64 0,.string ⟨#[]⟩,.slice none 0 0,.slice none 0 0]
 hw:Whole w gv 26 #[.int .i64 kz,.string ⟨#[]⟩,kr.v,.slice o ys.length c]
 ks:w.ownsRow B 9 1 kr.v kr.l.length (strC kr.l)
 it:w.ownsRow B 26 4 (.slice o ys.length c) ys.length (vtC ys)
 ch: ∀y∈ys,y.Own 26 9 B (fun g=>(Value.slice o ys.length c).ownBlock≠some g/\kr.v.ownBlock≠some g) w
 l0:W0.heap.size<W.heap.size
 ln:W.heap.size<=gn/\gn<B
 lr:W.heap.size<=gr/\gr<B
 lv:W.heap.size<=gv/\gv<B
 n1:gn≠gv
 n2:gr≠gv
section
variable {W0:World} {B:Nat} {W w w':World} {gn gr gv:Nat} {cn rc rc':Array Value} {kz:Int} {kr:SRow} {o:Option Addr} {c:Nat} {ys:List Vt}
theorem LdI.grow(h:LdI W0 B W gn gr gv cn kz kr o c ys rc w)(hb:Below w.heap.size w w'):LdI W0 B W gn gr gv cn kz kr o c ys rc w':=
 ⟨h.b0.trans (hb.mono h.b0.size),h.bl.trans (zb9 hb _),Nat.le_trans h.sz hb.size,h.rd.grow hb,h.hn.grow hb,h.hr.grow hb,h.hw.grow hb,h.ks.kept (zb9 hb none) (by cases kr.v.ownBlock<;>simp),
  h.it.kept (zb9 hb none) (by cases (Value.slice o ys.length c).ownBlock<;>simp),fun y hy=>(h.ch y hy).grow hb,h.l0,h.ln,h.lr,h.lv,h.n1,h.n2⟩
theorem own_ne {w:World} {B e size n:Nat} {v:Value} {xs:List Value} (h:w.ownsRow B e size v n xs) {g:Nat} (hg:g<B):v.ownBlock=none\/v.ownBlock≠some g:=by
 cases hv:v.ownBlock with
 |none=>exact .inl rfl
 |some q=>exact .inr (fun e=>by have:=(h.lt q hv).1;have:=Option.some.inj e;omega)
theorem LdI.call(h:LdI W0 B W gn gr gv cn kz kr o c ys rc w)(hg:w.grownBy w' (some W0.heap.size))(hrd:Whole w' W0.heap.size 136 rc'):LdI W0 B W gn gr gv cn kz kr o c ys rc' w':=by
 have hB:W0.heap.size<B:=by have:=h.l0;have:=h.ln;omega
 have ne: ∀g,W.heap.size<=g->some g≠some W0.heap.size:=fun g hg e=>by have:=Option.some.inj e;have:=h.l0;omega
 exact⟨h.b0.grown hg h.b0.size (fun k e=>by have:=Option.some.inj e;omega),h.bl.trans hg,Nat.le_trans h.sz hg.size,hrd,za6 h.hn hg (ne gn h.ln.1),za6 h.hr hg (ne gr h.lr.1),za6 h.hw hg (ne gv h.lv.1),
  h.ks.kept hg (own_ne h.ks hB),h.it.kept hg (own_ne h.it hB),fun y hy=>((h.ch y hy).lt.kept hg (fun g e hs=>by have:=Option.some.inj e;have:=hs.2.1;omega)).kind (fun g hs=>hs.1),h.l0,h.ln,h.lr,h.lv,h.n1,h.n2⟩
theorem LdI.item(h:LdI W0 B W gn gr gv cn kz kr o c ys rc w) {x:Vt} {o':Option Addr} {c':Nat} (hx:x.Own 26 9 B (fun g=>(Value.slice o ys.length c).ownBlock≠some g/\kr.v.ownBlock≠some g) w)
 (hown:w'.ownsRow B 26 4 (.slice o' (ys.length+1) c') (ys.length+1) (vtC ys++[.int .i64 x.k,.string (st x.t),x.ks.v,x.row])) (hg:w.grownBy w' (Value.slice o ys.length c).ownBlock)
 (hat:(Value.slice o' (ys.length+1) c').ownBlock=(Value.slice o ys.length c).ownBlock\/(Value.slice o' (ys.length+1) c').ownBlock=some w.heap.size):
 LdI W0 B W gn gr gv cn kz kr o' c' (ys++[x]) rc (w'.setCell ⟨gv,3,none⟩ (.slice o' (ys.length+1) c')):=by
 have hB:W0.heap.size<B:=by have:=h.l0;have:=h.ln;omega
 have hne: ∀g,g<B->some g≠(Value.slice o ys.length c).ownBlock:=fun g hgB e=>by have:=(h.it.lt g e.symm).1;omega
 have hl:(ys++[x]).length=ys.length+1:=by rw[List.length_append,List.length_singleton]
 have hw1:=za6 h.hw hg (hne gv h.lv.2);have hgv0:W0.heap.size≠gv:=by have:=h.l0;have:=h.lv;omega
 have hksw:kr.v.ownBlock=none\/kr.v.ownBlock≠(Value.slice o ys.length c).ownBlock:=zj1 h.ks h.it (by decide);refine⟨?_,?_,?_,(za6 h.rd hg (hne _ hB)).far hgv0 _,(za6 h.hn hg (hne gn h.ln.2)).far h.n1 _,(za6 h.hr hg (hne gr h.lr.2)).far h.n2 _,?_,zh (h.ks.kept hg hksw) hw1 (by decide) _,?_,fun y hy=> ?_,h.l0,h.ln,h.lr,h.lv,h.n1,h.n2⟩
 ·exact zd9 (h.b0.grown hg h.b0.size (fun j ej=>by have:=(h.it.lt j ej).1;omega)) (by have:=h.l0;have:=h.lv;omega) _ _
 ·have h1:W.grownBy w' (some W0.heap.size):=⟨hg.os.trans h.bl.os,hg.tape.trans h.bl.tape,hg.output.trans h.bl.output,Nat.le_trans h.bl.size hg.size,fun k hk hne2=>by
   rw[hg.block k (Nat.lt_of_lt_of_le hk h.bl.size) (fun e=>by have:=(h.it.lt k e.symm).1;have:=h.ln;omega)];exact h.bl.block k hk hne2⟩
  exact⟨h1.os,h1.tape,h1.output,by simp[World.setCell];exact h1.size,fun k hk hne2=>by
   rw[Below.heap_setCell _ _ _ _ (by have:=h.lv;show k≠gv;omega)];exact h1.block k hk hne2⟩
 ·rw[show (w'.setCell ⟨gv,3,none⟩ (.slice o' (ys.length+1) c')).heap.size=w'.heap.size by simp[World.setCell]];exact Nat.le_trans h.sz hg.size
 ·have h1:=hw1.put 3 (.slice o' (ys.length+1) c');rw[hl];exact h1
 ·rw[hl,zC9];exact zc8 hown h.lv.2 _
 ·have key: ∀y:Vt,y.Own 26 9 B (fun g=>(Value.slice o ys.length c).ownBlock≠some g/\kr.v.ownBlock≠some g) w->y.Own 26 9 B (fun g=>(Value.slice o' (ys++[x]).length c').ownBlock≠some g/\kr.v.ownBlock≠some g) (w'.setCell ⟨gv,3,none⟩ (.slice o' (ys.length+1) c')):=fun y hy=>by
   refine Vt.Own.set ((hy.lt.kept hg (fun g e hs=>hs.1.1 e)).kind (fun g hs=>⟨fun e=> ?_,hs.1.2⟩)) h.lv.2 _;rw[hl]at e;rcases hat with hat|hat
   ·rw[hat]at e;exact hs.1.1 e
   ·rw[hat]at e;have:=Option.some.inj e;omega
  rcases List.mem_append.1 hy with hy|hy
  ·exact key y (h.ch y hy)
  ·rw[List.mem_singleton.1 hy];exact key x hx
theorem LdI.key(h:LdI W0 B W gn gr gv cn kz kr o c ys rc w) {x:Bs} {o':Option Addr} {c':Nat}
 (hown:w'.ownsRow B 9 1 (.slice o' (kr.l.length+1) c') (kr.l.length+1) (strC kr.l++[.string (st x)])) (hg:w.grownBy w' kr.v.ownBlock)
 (hat:(Value.slice o' (kr.l.length+1) c').ownBlock=kr.v.ownBlock\/(Value.slice o' (kr.l.length+1) c').ownBlock=some w.heap.size):
 LdI W0 B W gn gr gv cn kz ⟨o',c',kr.l++[x]⟩ o c ys rc (w'.setCell ⟨gv,2,none⟩ (.slice o' (kr.l.length+1) c')):=by
 have hB:W0.heap.size<B:=by have:=h.l0;have:=h.ln;omega
 have hne: ∀g,g<B->some g≠kr.v.ownBlock:=fun g hgB e=>by have:=(h.ks.lt g e.symm).1;omega
 have hl:(kr.l++[x]).length=kr.l.length+1:=by rw[List.length_append,List.length_singleton]
 have hw1:=za6 h.hw hg (hne gv h.lv.2);have hgv0:W0.heap.size≠gv:=by have:=h.l0;have:=h.lv;omega
 have hitw:(Value.slice o ys.length c).ownBlock=none\/(Value.slice o ys.length c).ownBlock≠kr.v.ownBlock:=zj1 h.it h.ks (by decide);have hv:(⟨o',c',kr.l++[x]⟩:SRow).v= .slice o' (kr.l.length+1) c':=by
  show Value.slice o' (kr.l++[x]).length c'=_;rw[hl]
 refine⟨?_,?_,?_,(za6 h.rd hg (hne _ hB)).far hgv0 _,(za6 h.hn hg (hne gn h.ln.2)).far h.n1 _,(za6 h.hr hg (hne gr h.lr.2)).far h.n2 _,?_,?_,zc8 (h.it.kept hg hitw) h.lv.2 _,fun y hy=> ?_,h.l0,h.ln,h.lr,h.lv,h.n1,h.n2⟩
 ·exact zd9 (h.b0.grown hg h.b0.size (fun j ej=>by have:=(h.ks.lt j ej).1;omega)) (by have:=h.l0;have:=h.lv;omega) _ _
 ·have h1:W.grownBy w' (some W0.heap.size):=⟨hg.os.trans h.bl.os,hg.tape.trans h.bl.tape,hg.output.trans h.bl.output,Nat.le_trans h.bl.size hg.size,fun k hk hne2=>by
   rw[hg.block k (Nat.lt_of_lt_of_le hk h.bl.size) (fun e=>by have:=(h.ks.lt k e.symm).1;have:=h.ln;omega)];exact h.bl.block k hk hne2⟩
  exact⟨h1.os,h1.tape,h1.output,by simp[World.setCell];exact h1.size,fun k hk hne2=>by
   rw[Below.heap_setCell _ _ _ _ (by have:=h.lv;show k≠gv;omega)];exact h1.block k hk hne2⟩
 ·rw[show (w'.setCell ⟨gv,2,none⟩ (.slice o' (kr.l.length+1) c')).heap.size=w'.heap.size by simp[World.setCell]];exact Nat.le_trans h.sz hg.size
 ·have h1:=hw1.put 2 (.slice o' (kr.l.length+1) c');rw[hv];exact h1
 ·rw[hv];show(w'.setCell ⟨gv,2,none⟩ _).ownsRow B 9 1 (.slice o' (kr.l.length+1) c') (kr.l++[x]).length (strC (kr.l++[x]));rw[hl,show strC (kr.l++[x])=strC kr.l++[.string (st x)] by unfold strC;simp];exact zc8 hown h.lv.2 _
 ·refine Vt.Own.set (((h.ch y hy).lt.kept hg (fun g e hs=>hs.1.2 e)).kind (fun g hs=>⟨hs.1.1,fun e=> ?_⟩)) h.lv.2 _;rw[hv]at e;rcases hat with hat|hat
  ·rw[hat]at e;exact hs.1.2 e
  ·rw[hat]at e;have:=Option.some.inj e;omega
theorem LdI.out(h:LdI W0 B W gn gr gv cn kz kr o c ys rc w)(a b d f:Value):(Vt.mk kz [] kr o c ys).Own 26 9 W.heap.size (fun _=>True) ((((w.setCell ⟨gr,0,none⟩ a).setCell ⟨gr,1,none⟩ b).setCell ⟨gr,2,none⟩ d).setCell ⟨gr,3,none⟩ f):=by
 have hB:W.heap.size<=B:=by have:=h.lr;omega
 have p0:=h.hr.put 0 a;have p1:=p0.put 1 b;have p2:=p1.put 2 d;refine .mk kz [] kr o c ys (zr4 (zh (zh (zh (zh h.ks h.hr (by decide) a) p0 (by decide) b) p1 (by decide) d) p2 (by decide) f) hB) (fun _ _=>trivial)
  (zr4 (zc8 (zc8 (zc8 (zc8 h.it h.lr.2 a) h.lr.2 b) h.lr.2 d) h.lr.2 f) hB) (fun _ _=>trivial)
  (fun _i hi=>(((((h.ch _ (List.getElem_mem hi)).set h.lr.2 a).set h.lr.2 b).set h.lr.2 d).set h.lr.2 f).base hB|>.kind (fun _ _=>trivial))
theorem LdI.outR(h:LdI W0 B W gn gr gv cn kz kr o c ys rc w)(a b d f:Value):Whole ((((w.setCell ⟨gr,0,none⟩ a).setCell ⟨gr,1,none⟩ b).setCell ⟨gr,2,none⟩ d).setCell ⟨gr,3,none⟩ f) W0.heap.size 136 rc/\W.grownBy ((((w.setCell ⟨gr,0,none⟩ a).setCell ⟨gr,1,none⟩ b).setCell ⟨gr,2,none⟩ d).setCell ⟨gr,3,none⟩ f) (some W0.heap.size):=by
 have hne:W0.heap.size≠gr:=by have:=h.l0;have:=h.lr;omega
 refine⟨(((h.rd.far (p:=⟨gr,0,none⟩) hne a).far (p:=⟨gr,1,none⟩) hne b).far (p:=⟨gr,2,none⟩) hne d).far (p:=⟨gr,3,none⟩) hne f,h.bl.os,h.bl.tape,h.bl.output,?_,fun k hk hne2=> ?_⟩
 ·simp[World.setCell];exact h.bl.size
 ·have hk2:k≠gr:=by have:=h.lr;omega
  rw[Below.heap_setCell _ _ _ _ hk2,Below.heap_setCell _ _ _ _ hk2,Below.heap_setCell _ _ _ _ hk2,Below.heap_setCell _ _ _ _ hk2];exact h.bl.block k hk hne2
end
theorem zB3(w:World)(l:List Value)(T:TypeId): ∀j u,l[j]?=some u->(w.alloc (.cells l.toArray T)).cell? ((⟨w.heap.size,0,none⟩:Addr).add j)=some u:=by
 intro j u h;rw[show (⟨w.heap.size,0,none⟩:Addr).add j=⟨w.heap.size,j,none⟩ by simp[Addr.add];exact fun h=>h.symm,World.cell?_alloc_new];simpa using h
theorem infoSd:(Tryz.prog.info? 9).map (fun i=>(i.zero,i.size,i.bytes))=some (some (.string ⟨#[]⟩),1,16):=by kernel_rfl
theorem za9 {w:World} {g:Nat} {t:TypeId} {a b c d e f h:Value} (hw:Whole w g t #[a,b,c,d,e,f,h]):w.cell? ⟨g,0,none⟩=some a/\w.cell? ⟨g,1,none⟩=some b/\w.cell? ⟨g,2,none⟩=some c/\w.cell? ⟨g,3,none⟩=some d/\w.cell? ⟨g,4,none⟩=some e/\w.cell? ⟨g,5,none⟩=some f/\w.cell? ⟨g,6,none⟩=some h:=⟨hw.at_ 0,hw.at_ 1,hw.at_ 2,hw.at_ 3,hw.at_ 4,hw.at_ 5,hw.at_ 6⟩
structure KidsR(s:ByteArray)(nv:List NV)(W0:World)(kd:Nat)(kids:List Nat)(ok:Option Addr)(ck:Nat)(ks:List Bs)(vs:List Vl)(cs:List Nat):Prop where
 kk:kd=5\/kd=6
 le:kids.length<=ck
 cp:ck<=maxLen
 n4:kids.length<=4096
 cell: ∀q (hq:q<kids.length),∃b,ok=some ⟨b,0,none⟩/\W0.cell? ⟨b,q,none⟩=some (.int .i64 (kids[q]:Int))
 lt: ∀q (hq:q<kids.length),kids[q]<nv.length
 vl:vs.length=kids.length
 cl:cs.length=kids.length
 kl:kd=6->ks.length=kids.length/\ ∀i (hi:i<kids.length) (hk:kids[i]<nv.length),zC8 s nv[kids[i]].n.ka nv[kids[i]].n.kb/\ks.getD i []=za3 s nv[kids[i]].n.ka nv[kids[i]].n.kb
theorem drop_sum(cs:List Nat) {j:Nat} (h:j<cs.length):(cs.drop j).sum=cs.getD j 0+(cs.drop (j+1)).sum:=by
 rw[List.drop_eq_getElem_cons h,List.sum_cons,List.getD_eq_getElem?_getD,List.getElem?_eq_getElem h];rfl
theorem zx6 {α:Type} (l:List α)(z:α) {j:Nat} (h:j<l.length):l.take (j+1)=l.take j++[l.getD j z]:=by
 rw[List.take_succ_eq_append_getElem h,List.getD_eq_getElem?_getD,List.getElem?_eq_getElem h];rfl
def RL10(s:ByteArray)(gR gn gN n cN:Nat)(b kl ck j kid:Nat)(name:Bs)(i:Nat)(v:Value)(_ _:Nat)(_:World):Prop:=match i with
 |0=>v= .pointer (some ⟨gR,0,none⟩)
 |1=>v= .pointer (some ⟨gR,0,none⟩)
 |2=>v= .pointer (some ⟨gR,0,none⟩)
 |3=>v= .agg #[.string s,.slice (some ⟨gN,0,none⟩) n cN]
 |4=>v= .pointer (some ⟨gn,5,none⟩)
 |5=>v= .slice (some ⟨b,0,none⟩) kl ck
 |6=>v= .int .i64 (j:Int)
 |7=>v= .pointer (some ⟨b,j,none⟩)
 |8=>v= .int .i64 (kid:Int)
 |9=>v= .tuple #[.string (st name),.bool true]
 |10=>v= .tuple #[.string (st name),.bool true]
 |11=>v= .string (st name)
 |12=>v= .bool true
 |13=>v= .string (st name)
 |14=>v= .bool true
 |_=>True
theorem zL1(s:ByteArray)(nv:List NV)(gN cN:Nat)(W0:World)(hE:Env W0)(hs:s.size<=65536)(hD:DocR nv gN cN W0)(kd na nb ka kb:Nat)(kids:List Nat)(ok:Option Addr)(ck:Nat)(po:Option Addr)(pn pc:Nat)(ks:List Bs)(vs:List Vl)(cs:List Nat)(hK:KidsR s nv W0 kd kids ok ck ks vs cs)
 (lev rest:Nat) (hlev:lev<=1000) (hleft:rest+cs.sum<=4096)
 (ih: ∀i (hi:i<kids.length) (r:Nat) V,Below W0.heap.size W0 V->Whole V W0.heap.size 136 #[.string s,.slice (some ⟨gN,0,none⟩) nv.length cN,.int .i64 ((r+cs.getD i 0:Nat):Int)]->r+cs.getD i 0<=4096->Calls Tryz.prog 115 #[.pointer (some ⟨W0.heap.size,0,none⟩),.int .i64 (kids[i]:Int),.int .i64 ((lev:Int)+1)] V (zu W0.heap.size #[.string s,.slice (some ⟨gN,0,none⟩) nv.length cN,.int .i64 (r:Int)] (vs.getD i zV) V))
 (W:World) (hb:Below W0.heap.size W0 W) (hw:Whole W W0.heap.size 136 #[.string s,.slice (some ⟨gN,0,none⟩) nv.length cN,.int .i64 ((rest+cs.sum:Nat):Int)]):
 Calls Tryz.prog 154 #[.pointer (some ⟨W0.heap.size,0,none⟩),.agg #[.int .i64 (kd:Int),.int .i64 (na:Int),.int .i64 (nb:Int),.int .i64 (ka:Int),.int .i64 (kb:Int),.slice ok kids.length ck,.slice po pn pc],.int .i64 (lev:Int)] W (zu W0.heap.size #[.string s,.slice (some ⟨gN,0,none⟩) nv.length cN,.int .i64 (rest:Int)] (.mk (kd:Int) [] (if kd=6 then ks else []) vs) W):=by
 have hkl:=hK.le;have hkc:=hK.cp;have hk4:=hK.n4;unfold maxLen at hkc;have HKC:=hq (fun q (hq':q<kids.length) V (h:Below W0.heap.size W0 V)=>(show∃b,ok=some ⟨b,0,none⟩/\V.cell? ⟨b,q,none⟩=some (.int .i64 (kids[q]:Int)) from by
  obtain⟨b,h1,h2⟩:=hK.cell q hq';exact⟨b,h1,(h.cell (zz4 h2)).trans h2⟩))
 have HIH:=hq ih;have HKL:=hq hK.kl;have HKT:=hq hK.lt;have HVL:=hq hK.vl;have HCL:=hq hK.cl;have HKY:=hq (fun (k:Nat) (hk:k<nv.length) (hso:zC8 s nv[k].n.ka nv[k].n.kb) V (h:Below W0.heap.size W0 V)=>rdkey_any s nv gN cN k V (hE.grow h) hs (hD.grow h) hk hso);have hkd:=hK.kk;have HP:Hq (∀(y:Vt) W',y.Own 26 9 W.heap.size (fun _=>True) W'->y.m= .mk (kd:Int) [] (if kd=6 then ks else []) vs->Whole W' W0.heap.size 136 #[.string s,.slice (some ⟨gN,0,none⟩) nv.length cN,.int .i64 (rest:Int)]->W.grownBy W' (some W0.heap.size)->zu W0.heap.size #[.string s,.slice (some ⟨gN,0,none⟩) nv.length cN,.int .i64 (rest:Int)] (.mk (kd:Int) [] (if kd=6 then ks else []) vs) W (.returned (.tuple #[y.v,.bool true])) W'):=hq (fun y W' h1 h2 h3 h4=>⟨y,rfl,h1,h2,h3,h4⟩);generalize zu W0.heap.size #[.string s,.slice (some ⟨gN,0,none⟩) nv.length cN,.int .i64 (rest:Int)] (.mk (kd:Int) [] (if kd=6 then ks else []) vs) W=PP at *;have hgRW:=hw.lt;clear hK ih hE hD;have e1: ∀A:World,Below A.heap.size A (((A.alloc (.cells #[.int .i64 (kd:Int),.int .i64 (na:Int),.int .i64 (nb:Int),.int .i64 (ka:Int),.int .i64 (kb:Int),.slice ok kids.length ck,.slice po pn pc] 149)).alloc (.cells #[.int .i64 0,.string ⟨#[]⟩,.slice none 0 0,.slice none 0 0] 26)).alloc (.cells #[.int .i64 (kd:Int),.string ⟨#[]⟩,.slice none 0 0,.slice none 0 0] 26)):=fun A=>za (za0 A _) (za (za0 _ _) (za0 _ _))
 have HN0:=hq (((Whole.made W 149 #[.int .i64 (kd:Int),.int .i64 (na:Int),.int .i64 (nb:Int),.int .i64 (ka:Int),.int .i64 (kb:Int),.slice ok kids.length ck,.slice po pn pc]).alloc (.cells #[.int .i64 0,.string ⟨#[]⟩,.slice none 0 0,.slice none 0 0] 26)).alloc (.cells #[.int .i64 (kd:Int),.string ⟨#[]⟩,.slice none 0 0,.slice none 0 0] 26));have HR0:=hq ((Whole.made (W.alloc (.cells #[.int .i64 (kd:Int),.int .i64 (na:Int),.int .i64 (nb:Int),.int .i64 (ka:Int),.int .i64 (kb:Int),.slice ok kids.length ck,.slice po pn pc] 149)) 26 #[.int .i64 0,.string ⟨#[]⟩,.slice none 0 0,.slice none 0 0]).alloc (.cells #[.int .i64 (kd:Int),.string ⟨#[]⟩,.slice none 0 0,.slice none 0 0] 26));have HV0:=hq (Whole.made ((W.alloc (.cells #[.int .i64 (kd:Int),.int .i64 (na:Int),.int .i64 (nb:Int),.int .i64 (ka:Int),.int .i64 (kb:Int),.slice ok kids.length ck,.slice po pn pc] 149)).alloc (.cells #[.int .i64 0,.string ⟨#[]⟩,.slice none 0 0,.slice none 0 0] 26)) 26 #[.int .i64 (kd:Int),.string ⟨#[]⟩,.slice none 0 0,.slice none 0 0]);have HBB:=hq (e1 W);have hsz0:(((W.alloc (.cells #[.int .i64 (kd:Int),.int .i64 (na:Int),.int .i64 (nb:Int),.int .i64 (ka:Int),.int .i64 (kb:Int),.slice ok kids.length ck,.slice po pn pc] 149)).alloc (.cells #[.int .i64 0,.string ⟨#[]⟩,.slice none 0 0,.slice none 0 0] 26)).alloc (.cells #[.int .i64 (kd:Int),.string ⟨#[]⟩,.slice none 0 0,.slice none 0 0] 26)).heap.size=W.heap.size+1+1+1:=by simp only[World.size_alloc]
 have hz1:(W.alloc (.cells #[.int .i64 (kd:Int),.int .i64 (na:Int),.int .i64 (nb:Int),.int .i64 (ka:Int),.int .i64 (kb:Int),.slice ok kids.length ck,.slice po pn pc] 149)).heap.size=W.heap.size+1:=World.size_alloc _ _;have hz2:((W.alloc (.cells #[.int .i64 (kd:Int),.int .i64 (na:Int),.int .i64 (nb:Int),.int .i64 (ka:Int),.int .i64 (kb:Int),.slice ok kids.length ck,.slice po pn pc] 149)).alloc (.cells #[.int .i64 0,.string ⟨#[]⟩,.slice none 0 0,.slice none 0 0] 26)).heap.size=W.heap.size+1+1:=by simp only[World.size_alloc]
 rw[hz1]at HR0;rw[hz2]at HV0;clear hz1 hz2 e1;have hcc:=za9 (Whole.made W 149 #[.int .i64 (kd:Int),.int .i64 (na:Int),.int .i64 (nb:Int),.int .i64 (ka:Int),.int .i64 (kb:Int),.slice ok kids.length ck,.slice po pn pc]);go_enter Tryz.func154,Tryz.ntmps154
 go_upto_region 1 with fail
 obtain⟨q0,q1,q2,q3,q4,q5,q6⟩:=za9 ((Whole.made W 149 #[.int .i64 (kd:Int),.int .i64 (na:Int),.int .i64 (nb:Int),.int .i64 (ka:Int),.int .i64 (kb:Int),.slice ok kids.length ck,.slice po pn pc]).alloc (.cells #[.int .i64 0,.string ⟨#[]⟩,.slice none 0 0,.slice none 0 0] 26));clear hcc;go_upto_region 2 with fail
 clear q0 q1 q2 q3 q4 q5 q6;obtain⟨q0,q1,q2,q3,q4,q5,q6⟩:=za9 HN0.o;go_upto_region 3 with fail
 clear q0 q1 q2 q3 q4 q5 q6;have HI0:Hq (LdI W0 (W.heap.size+1+1+1) W W.heap.size (W.heap.size+1) (W.heap.size+1+1) #[.int .i64 (kd:Int),.int .i64 (na:Int),.int .i64 (nb:Int),.int .i64 (ka:Int),.int .i64 (kb:Int),.slice ok kids.length ck,.slice po pn pc] (kd:Int) ⟨none,0,[]⟩ none 0 [] #[.string s,.slice (some ⟨gN,0,none⟩) nv.length cN,.int .i64 ((rest+cs.sum:Nat):Int)] (((W.alloc (.cells #[.int .i64 (kd:Int),.int .i64 (na:Int),.int .i64 (nb:Int),.int .i64 (ka:Int),.int .i64 (kb:Int),.slice ok kids.length ck,.slice po pn pc] 149)).alloc (.cells #[.int .i64 0,.string ⟨#[]⟩,.slice none 0 0,.slice none 0 0] 26)).alloc (.cells #[.int .i64 (kd:Int),.string ⟨#[]⟩,.slice none 0 0,.slice none 0 0] 26))):=
  hq ⟨hb.trans (HBB.o.mono hb.size),zb9 HBB.o _,Nat.le_of_eq hsz0.symm,hw.grow HBB.o,HN0.o,HR0.o,HV0.o,World.ownsRow_nil _ _ _ _,World.ownsRow_nil _ _ _ _,(fun y hy=>by cases hy),hgRW,⟨by omega,by omega⟩,⟨by omega,by omega⟩,⟨by omega,by omega⟩,by omega,by omega⟩
 clear HN0 HR0 HV0 HBB hsz0 hb hw;generalize (((W.alloc (.cells #[.int .i64 (kd:Int),.int .i64 (na:Int),.int .i64 (nb:Int),.int .i64 (ka:Int),.int .i64 (kb:Int),.slice ok kids.length ck,.slice po pn pc] 149)).alloc (.cells #[.int .i64 0,.string ⟨#[]⟩,.slice none 0 0,.slice none 0 0] 26)).alloc (.cells #[.int .i64 (kd:Int),.string ⟨#[]⟩,.slice none 0 0,.slice none 0 0] 26))=V0 at *;generalize hgw:W.heap.size=gw at *;have HGW:=hq hgw;clear hgw;obtain⟨gR,HGR⟩: ∃g,Hq (W0.heap.size=g):=⟨_,hq rfl⟩
 go_loopw [9,10,11,12,19] (fun _ _ _ _ i wr=> ∃(j:Nat) (kr:SRow) (pp:Option Addr) (qq:Nat) (ys:List Vt),j<=kids.length/\i= .int .i64 (j:Int)/\Hq (LdI W0 (gw+1+1+1) W gw (gw+1) (gw+1+1) #[.int .i64 (kd:Int),.int .i64 (na:Int),.int .i64 (nb:Int),.int .i64 (ka:Int),.int .i64 (kb:Int),.slice ok kids.length ck,.slice po pn pc] (kd:Int) kr pp qq ys #[.string s,.slice (some ⟨gN,0,none⟩) nv.length cN,.int .i64 ((rest+(cs.drop j).sum:Nat):Int)] wr)/\Hq (ys.map Vt.m=vs.take j)/\Hq (kr.l=if kd=6 then ks.take j else [])) (fun _ _ _ _ i _=>kids.length-(intOf i).toNat)
 case atStart=>exact⟨0,⟨none,0,[]⟩,none,0,[],Nat.zero_le _,rfl,HI0,hq rfl,hq (by split<;>rfl)⟩
 case round=>
  obtain⟨j,kr,pp,qq,ys,hj,rfl,hI,hys,hkr⟩:=hrel;by_cases h:j<kids.length
  ·have hz:(j:Int)<(kids.length:Int):=by omega
   obtain⟨q0,q1,q2,q3,q4,q5,q6⟩:=za9 hI.o.hn;obtain⟨b,hob,k0⟩:=HKC.o j h wr hI.o.b0;have HK0:=hq (show∀U,Below W0.heap.size W0 U->U.cell? ⟨b,j,none⟩=some (.int .i64 (kids[j]:Int)) from fun U hU=>by
    obtain⟨b',h1,h2⟩:=HKC.o j h U hU;rw[hob]at h1;cases h1;exact h2)
   have hds:=drop_sum cs (j:=j) (by have:=HCL.o;omega);have HTS:Hq ((cs.drop j).sum<=cs.sum):=hq (by
    have:=congrArg List.sum (List.take_append_drop j cs);rw[List.sum_append]at this;omega)
   have HNXT:Hq ((rest+(cs.drop j).sum:Nat)=(rest+(cs.drop (j+1)).sum)+cs.getD j 0):=hq (by omega);have HC:=hq (fun V h1 h2=>HIH.o j h (rest+(cs.drop (j+1)).sum) V h1 h2 (by have:=HNXT.o;have:=HTS.o;omega));rw[←HNXT.o]at HC;have hyl:ys.length<=4096:=by
    have h1:=congrArg List.length hys.o;rw[List.length_map,List.length_take]at h1;omega
   have HYL:Hq (ys.length=j):=hq (by
    have h1:=congrArg List.length hys.o;have h2:=HVL.o;rw[List.length_map,List.length_take]at h1;omega)
   have HSZB:=hq hI.o.sz;have HOW:=hq (show∀(U:World) (y:Vt),y.Own 26 9 wr.heap.size (fun _=>True) U->y.Own 26 9 (gw+1+1+1) (fun g=>(Value.slice pp ys.length qq).ownBlock≠some g/\kr.v.ownBlock≠some g) U from fun U y hy=>
    (hy.lt.base HSZB.o).kind (fun g hg=>⟨fun e=>by have h1:=(hI.o.it.lt g e).2;omega,fun e=>by have h1:=(hI.o.ks.lt g e).2;omega⟩))
   have HTKV:=hq (zx6 vs zV (j:=j) (by have:=HVL.o;omega));have HKEY:Hq (kd=6->ks.take (j+1)=ks.take j++[ks.getD j []]/\kr.l.length=j/\ ∀U,Below W0.heap.size W0 U->Calls Tryz.prog 193 #[.agg #[.string s,.slice (some ⟨gN,0,none⟩) nv.length cN],.int .i64 (kids[j]:Int)] U fun e W'=>e= .returned (.tuple #[.string (st (ks.getD j [])),.bool true])/\Below U.heap.size U W'):=hq (fun h6=>by
    obtain⟨a1,a2⟩:=HKL.o h6;refine⟨zx6 ks [] (by omega),by rw[hkr.o,if_pos h6,List.length_take];omega,fun U hU=> ?_⟩;obtain⟨a3,a4⟩:=a2 j h (HKT.o j h);rw[a4];exact HKY.o kids[j] (HKT.o j h) a3 U hU)
   obtain⟨i1,hi1,hy0,hy1,hy2⟩:=zo6 infoVv;obtain⟨i2,hi2,hx0,hx1,hx2⟩:=zo6 infoSd;generalize hkj:kids[j]=kid at *;generalize vs.getD j zV=vj at *;subst hob;clear HKC HIH HKL HKT HKY hds hkj;go_wp2_with fail
   refine(HC.o wr hI.o.b0 hI.o.rd).mono ?_;rintro e w9 ⟨y,rfl,hyo,hym,hrd9,hg9⟩;have HI9:=hq (hI.o.call hg9 hrd9);have HY9:=hq (HOW.o w9 y hyo);have HYM:=hq hym;clear HC HOW hyo hym hrd9 hg9 hI q0 q1 q2 q3 q4 q5 q6;obtain⟨yk,yt,⟨yko,ykc,ykl⟩,yo,yc,yis⟩:=y;rw[Vt.v_mk'];go_upto_region 6 with fail
   have HIa:=hq (HI9.o.grow (za0 w9 (.cells #[.int .i64 yk,.string (st yt),.slice yko ykl.length ykc,.slice yo yis.length yc] 26)));have HYa:=hq (HY9.o.grow (za0 w9 (.cells #[.int .i64 yk,.string (st yt),.slice yko ykl.length ykc,.slice yo yis.length yc] 26)));have HBX:=hq (Whole.made w9 26 #[.int .i64 yk,.string (st yt),.slice yko ykl.length ykc,.slice yo yis.length yc]);clear HI9 HY9;generalize (w9.alloc (.cells #[.int .i64 yk,.string (st yt),.slice yko ykl.length ykc,.slice yo yis.length yc] 26))=wa at *;generalize w9.heap.size=gi at *;obtain⟨d0,d1,d2,d3⟩:=za1 HIa.o.hw;obtain⟨x0,x1,x2,x3⟩:=za1 HBX.o;have k0':=k0;clear k0;go_wp2_with (at_builtin;refine wpList_append_own_at _ rfl _ _ 24 rfl (gw+1+1+1) 26 i1 (.agg #[.int .i64 0,.string ⟨#[]⟩,.slice none 0 0,.slice none 0 0]) 4 72 Tryz.underlying24 hi1 hy0 hy1 hy2 rfl (by decide) (.slice pp ys.length qq) ys.length (vtC ys) rfl (HIa.o.it.alloc _) ⟨wa.heap.size,0,none⟩ 1 1 [.int .i64 yk,.string (st yt),.slice yko ykl.length ykc,.slice yo yis.length yc] rfl rfl (zB3 _ [.int .i64 yk,.string (st yt),.slice yko ykl.length ykc,.slice yo yis.length yc] _) (by simp[Value.oneCell']) (by unfold maxLen;omega) (by omega) (by rw[World.size_alloc];have:=HIa.o.sz;omega) ?_)
   intro v' w6 hown6 hgrow6 _ hat6;obtain⟨g6,c6,rfl⟩:=zo1 hown6;have HIb:=hq (HIa.o.grow (za0 wa (.cells #[.int .i64 yk,.string (st yt),.slice yko ykl.length ykc,.slice yo yis.length yc] 26)));have hw6:=za6 HIb.o.hw hgrow6 (fun e=>by have h1:=(HIb.o.it.lt _ e.symm).1;have h2:=HIb.o.lv.2;omega);have e6a:=hw6.at_ 3;have e6b:=hw6.free 3;have HI6:=hq (HIb.o.item (x:=Vt.mk yk yt ⟨yko,ykc,ykl⟩ yo yc yis) (HYa.o.grow (za0 wa _)) hown6 hgrow6 (by rw[World.size_alloc];exact hat6));have HYS:Hq ((ys++[Vt.mk yk yt ⟨yko,ykc,ykl⟩ yo yc yis]).map Vt.m=vs.take (j+1)):=hq (by
    rw[List.map_append,hys.o,HTKV.o,List.map_cons,List.map_nil,HYM.o])
   have hys1:(ys++[Vt.mk yk yt ⟨yko,ykc,ykl⟩ yo yc yis]).length<=4097:=by rw[List.length_append,List.length_singleton];omega
   clear hown6 hgrow6 hat6 HIa HIb HYa hw6 HBX hys HTKV HYM hyl HYL HSZB hi1 hy0 hy1 hy2 x0 x1 x2 x3 d0 d1 d2 d3;go_upto_region 9 with fail
   generalize (w6.setCell ⟨gw+1+1,3,none⟩ (.slice (some ⟨g6,0,none⟩) (ys.length+1) c6))=W7 at *;generalize (ys++[Vt.mk yk yt ⟨yko,ykc,ykl⟩ yo yc yis])=ys1 at *;clear e6a e6b;obtain⟨q0,q1,q2,q3,q4,q5,q6⟩:=za9 HI6.o.hn;by_cases hk6:kd=6
   case neg=>
    have hk5:kd=5:=hkd.resolve_right hk6;have e5:((kd:Int)==5)=true:=by rw[hk5];rfl
    have HKR:Hq (kr.l=if kd=6 then ks.take (j+1) else []):=hq (by rw[if_neg hk6];have:=hkr.o;rw[if_neg hk6]at this;exact this);clear hk6 hk5 hkd hkr HKEY HK0;go_wp2_with fail
    go_roundw
    case rel=>exact⟨j+1,kr,some ⟨g6,0,none⟩,c6,ys1,h,zb5 (by omega),HI6,HYS,HKR⟩
    case measure=>(try simp[intOf]);omega
   case pos=>
    have e5:((kd:Int)==5)=false:=by rw[hk6];rfl
    obtain⟨HK1,HK2,HK3⟩:=HKEY.o hk6;have HKT1:=hq HK1;have HKL1:=hq HK2;have HKQ:=hq HK3;have HK6:=hq hk6;clear HK1 HK2 HK3 HKEY hk6 hkd;generalize ks.getD j []=name at *;go_upto_region 10 with fail
    refine zB (by kernel_rfl) [(0,47),(1,48),(2,49),(3,50),(4,51),(5,52),(6,53),(7,54),(8,55),(9,56),(10,46),(11,57),(12,58),(13,12),(14,11)] [[0],[1,0],[2,1,0],[3,2,1,0],[4],[5,4],[6],[7,5,4,6],[8,7,5,4,6],[9,3,2,1,0,8,7,5,4,6],[10,9,3,2,1,0,8,7,5,4,6],[11,10,9,3,2,1,0,8,7,5,4,6],[12,10,9,3,2,1,0,8,7,5,4,6],[13,11,10,9,3,2,1,0,8,7,5,4,6],[14,12,10,9,3,2,1,0,8,7,5,4,6]] [] [] (RL10 s W0.heap.size gw gN nv.length cN b kids.length ck j kid name) ?A ?hA (by kernel_rfl) ?hs ?he
    case hA=>
     intro f;simp only[putS];go_simp
     rfl
    case hs=>
     refine Steps.cons rfl ?_ (Steps.cons rfl ?_ (Steps.cons rfl ?_ (Steps.cons rfl ?_ (Steps.cons rfl ?_ (Steps.cons rfl ?_ (Steps.cons rfl ?_ (Steps.cons rfl ?_ (Steps.cons rfl ?_ (Steps.cons rfl ?_ (Steps.cons rfl ?_ (Steps.cons rfl ?_ (Steps.cons rfl ?_ (Steps.cons rfl ?_ (Steps.cons rfl ?_ Steps.nil))))))))))))))
     ·intro f lo hi W2 hb hd K hK;rw[if_pos (by rfl)];go_simp
      exact hK _ _ (Below.refl _ _) (fun V _ _ _ _=>rfl)
     ·intro f lo hi W2 hb hd K hK;rw[if_pos (by rfl)];have e0:f 0=_:=(hd 0 (by decide) (by decide));clear hd;dsimp only at hK;generalize f 0=x0 at e0 hK ⊢;subst e0;go_simp
      exact hK _ _ (Below.refl _ _) (fun V _ _ _ _=>rfl)
     ·intro f lo hi W2 hb hd K hK;rw[if_pos (by rfl)];have e1:f 1=_:=(hd 1 (by decide) (by decide));clear hd;dsimp only at hK;generalize f 1=x1 at e1 hK ⊢;subst e1;go_simp
      exact hK _ _ (Below.refl _ _) (fun V _ _ _ _=>rfl)
     ·intro f lo hi W2 hb hd K hK;rw[if_pos (by rfl)];have e2:f 2=_:=(hd 2 (by decide) (by decide));clear hd;dsimp only at hK;generalize f 2=x2 at e2 hK ⊢;subst e2;have r0:=(HI6.o.grow hb).rd.at_ 0;have r1:=(HI6.o.grow hb).rd.at_ 1;have r2:=(HI6.o.grow hb).rd.at_ 2;go_simp
      exact hK _ _ (Below.refl _ _) (fun V _ _ _ _=>rfl)
     ·intro f lo hi W2 hb hd K hK;rw[if_pos (by rfl)];go_simp
      exact hK _ _ (Below.refl _ _) (fun V _ _ _ _=>rfl)
     ·intro f lo hi W2 hb hd K hK;rw[if_pos (by rfl)];have e4:f 4=_:=(hd 4 (by decide) (by decide));clear hd;dsimp only at hK;generalize f 4=x4 at e4 hK ⊢;subst e4;obtain⟨q0,q1,q2,q3,q4,q5,q6⟩:=za9 (HI6.o.grow hb).hn;go_simp
      exact hK _ _ (Below.refl _ _) (fun V _ _ _ _=>rfl)
     ·intro f lo hi W2 hb hd K hK;rw[if_pos (by rfl)];go_simp
      exact hK _ _ (Below.refl _ _) (fun V _ _ _ _=>rfl)
     ·intro f lo hi W2 hb hd K hK;rw[if_pos (by rfl)];have e5:f 5=_:=(hd 5 (by decide) (by decide));have e6:f 6=_:=(hd 6 (by decide) (by decide));clear hd;dsimp only at hK;generalize f 5=x5 at e5 hK ⊢;generalize f 6=x6 at e6 hK ⊢;subst e5;subst e6;go_simp
      exact hK _ _ (Below.refl _ _) (fun V _ _ _ _=>rfl)
     ·intro f lo hi W2 hb hd K hK;rw[if_pos (by rfl)];have e7:f 7=_:=(hd 7 (by decide) (by decide));clear hd;dsimp only at hK;generalize f 7=x7 at e7 hK ⊢;subst e7;have k1:=HK0.o W2 (HI6.o.grow hb).b0;go_simp
      exact hK _ _ (Below.refl _ _) (fun V _ _ _ _=>rfl)
     ·intro f lo hi W2 hb hd K hK;rw[if_pos (by rfl)];have e3:f 3=_:=(hd 3 (by decide) (by decide));have e8:f 8=_:=(hd 8 (by decide) (by decide));clear hd;dsimp only at hK;generalize f 3=x3 at e3 hK ⊢;generalize f 8=x8 at e8 hK ⊢;subst e3;subst e8;go_simp
      refine(HKQ.o W2 (HI6.o.grow hb).b0).mono ?_;rintro e w2 ⟨rfl,hb2⟩;exact hK _ _ hb2 (fun V _ _ _ _=>rfl)
     ·intro f lo hi W2 hb hd K hK;rw[if_pos (by rfl)];have e9:f 9=_:=(hd 9 (by decide) (by decide));clear hd;dsimp only at hK;generalize f 9=x9 at e9 hK ⊢;subst e9;go_simp
      exact hK _ _ (Below.refl _ _) (fun V _ _ _ _=>rfl)
     ·intro f lo hi W2 hb hd K hK;rw[if_pos (by rfl)];have e10:f 10=_:=(hd 10 (by decide) (by decide));clear hd;dsimp only at hK;generalize f 10=x10 at e10 hK ⊢;subst e10;go_simp
      exact hK _ _ (Below.refl _ _) (fun V _ _ _ _=>rfl)
     ·intro f lo hi W2 hb hd K hK;rw[if_pos (by rfl)];have e10:f 10=_:=(hd 10 (by decide) (by decide));clear hd;dsimp only at hK;generalize f 10=x10 at e10 hK ⊢;subst e10;go_simp
      exact hK _ _ (Below.refl _ _) (fun V _ _ _ _=>rfl)
     ·intro f lo hi W2 hb hd K hK;rw[if_pos (by rfl)];have e11:f 11=_:=(hd 11 (by decide) (by decide));clear hd;dsimp only at hK;generalize f 11=x11 at e11 hK ⊢;subst e11;go_simp
      exact hK _ _ (Below.refl _ _) (fun V _ _ _ _=>rfl)
     ·intro f lo hi W2 hb hd K hK;rw[if_pos (by rfl)];have e12:f 12=_:=(hd 12 (by decide) (by decide));clear hd;dsimp only at hK;generalize f 12=x12 at e12 hK ⊢;subst e12;go_simp
      exact hK _ _ (Below.refl _ _) (fun V _ _ _ _=>rfl)
    case he=>
     intro f lo hi W2 hb hR hbx hk;have e13:f 13=_:=hR 13 (by decide);have e14:f 14=_:=hR 14 (by decide);clear hR hbx hk;have HI8:=hq (HI6.o.grow hb);clear HI6 HK0 HKQ hb q0 q1 q2 q3 q4 q5 q6;generalize f 13=x13 at *;generalize f 14=x14 at *;subst e13;subst e14;refine zn6 ?_;obtain⟨d0,d1,d2,d3⟩:=za1 HI8.o.hw;obtain⟨kro,krc,krl⟩:=kr;have hkrl:krl.length<=4096:=by have:=HKL1.o;simp only at this;omega
     unfold SRow.v at d2;simp only at d2;go_wp2_with (at_builtin;refine wpList_append_own_at _ rfl _ _ 23 rfl (gw+1+1+1) 9 i2 (.string ⟨#[]⟩) 1 16 Tryz.underlying23 hi2 hx0 hx1 hx2 rfl (by decide) (.slice kro krl.length krc) krl.length (strC krl) rfl (HI8.o.ks.alloc _) ⟨W2.heap.size,0,none⟩ 1 1 [.string (st name)] rfl rfl (zB3 _ [.string (st name)] _) (by simp[Value.oneCell']) (by unfold maxLen;omega) (by omega) (by rw[World.size_alloc];have:=HI8.o.sz;omega) ?_)
     intro v' w8 hown8 hgrow8 _ hat8;obtain⟨g8,c8,rfl⟩:=zo1 hown8;have HIc:=hq (HI8.o.grow (za0 W2 (.cells #[.string (st name)] 9)));have hw8:=za6 HIc.o.hw hgrow8 (fun e=>by have h1:=(HIc.o.ks.lt _ e.symm).1;have h2:=HIc.o.lv.2;omega);have e8a:=hw8.at_ 2;have e8b:=hw8.free 2;have HI10:=hq (HIc.o.key (x:=name) hown8 hgrow8 (by rw[World.size_alloc];exact hat8));have HKR:Hq ((⟨some ⟨g8,0,none⟩,c8,krl++[name]⟩:SRow).l=if kd=6 then ks.take (j+1) else []):=hq (by
      rw[if_pos HK6.o,HKT1.o];have:=hkr.o;rw[if_pos HK6.o]at this;simp only at this ⊢;rw[this])
     clear hown8 hgrow8 hat8 HIc hw8 HI8 hkr d0 d1 d2 d3;go_upto_region 14 with fail
     generalize (w8.setCell ⟨gw+1+1,2,none⟩ (.slice (some ⟨g8,0,none⟩) (krl.length+1) c8))=W9 at *;clear e8a e8b;go_wp2_with fail
     go_roundw
     case rel=>exact⟨j+1,_,some ⟨g6,0,none⟩,c6,ys1,h,zb5 (by omega),HI10,HYS,HKR⟩
     case measure=>(try simp[intOf]);omega
  ·have hz: ¬(j:Int)<(kids.length:Int):=by omega
   have hjl:j=kids.length:=by omega
   have HYE:Hq (ys.map Vt.m=vs):=hq (by rw[hys.o,List.take_of_length_le (by have:=HVL.o;omega)]);have HKE:Hq (kr.l=if kd=6 then ks else []):=hq (by
    have h1:=hkr.o;by_cases h6:kd=6
    ·rw[if_pos h6]at h1 ⊢;rw[h1,List.take_of_length_le (by have:=(HKL.o h6).1;omega)]
    ·rw[if_neg h6]at h1 ⊢;exact h1)
   have hd0:(cs.drop j).sum=0:=by rw[List.drop_eq_nil_of_le (by have:=HCL.o;omega)];rfl
   rw[hd0,Nat.add_zero]at hI;clear hd0 hys hkr HKL HKT HKC HIH HKY hjl;obtain⟨d0,d1,d2,d3⟩:=za1 hI.o.hw;obtain⟨r0,r1,r2,r3⟩:=za1 hI.o.hr;have f0:=hI.o.hr.free 0;have f1:=hI.o.hr.free 1;have f2:=hI.o.hr.free 2;have f3:=hI.o.hr.free 3;obtain⟨kro,krc,krl⟩:=kr;unfold SRow.v at d2;simp only at d2;have HOUT:=hq (hI.o.out (.int .i64 (kd:Int)) (.string ⟨#[]⟩) (.slice kro krl.length krc) (.slice pp ys.length qq));have HOUR:=hq (hI.o.outR (.int .i64 (kd:Int)) (.string ⟨#[]⟩) (.slice kro krl.length krc) (.slice pp ys.length qq));have HM:=hq (show(Vt.mk (kd:Int) [] ⟨kro,krc,krl⟩ pp qq ys).m= .mk (kd:Int) [] (if kd=6 then ks else []) vs from(Vt.m_mk _ _ _ _ _ _).trans (by rw[HYE.o];simp only;rw[←HKE.o]));have HV:=hq (HP.o (Vt.mk (kd:Int) [] ⟨kro,krc,krl⟩ pp qq ys) _ (by have h1:=HOUT.o;rw[HGW.o]at h1;exact h1) HM.o HOUR.o.1 HOUR.o.2);clear HP HOUT HOUR HM HYE HKE hI;go_wp2_with fail
   refine bodyPost_ret (v:= .tuple #[(Vt.mk (kd:Int) [] ⟨kro,krc,krl⟩ pp qq ys).v,.bool true]) ?_ rfl HV.o;simp[results,Tryz.results154,go_sem,r0,r1,r2,r3,Vt.v_mk']
end Go.Proofs.YtkafjblfjdpdaaaGreatDoor
