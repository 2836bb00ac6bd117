/-
  WALK of reading: a node, and all under it.
  WALK of reading: a node and all under it, whatever they are.
  WALK of reading: read.Node, of what json.Parse leaves.
  WALK of reading: read.Read.
-/
import Derived.Test.YtkafjblfjdpdaaaGreatDoorRda
import Derived.Test.YtkafjblfjdpdaaaGreatDoorFlx
set_option maxHeartbeats 32000000
set_option maxRecDepth 1000000
namespace Go.Proofs.YtkafjblfjdpdaaaGreatDoor
open Go.RowKit
theorem zH3 {s:ByteArray} {x:JN} (h:LeafOk s x): ∃t:Bs,LeafT x.kd (s.extract x.a x.b) t/\leafV s x= .mk (x.kd:Int) t [] []:=by
 obtain⟨h1,h2,k,h3,h4,h5⟩:=h;have hsub:(s.extract x.a x.b).data.toList=sub s x.a x.b:=rfl;unfold leafV LeafT;rcases h5 with e|e|e|e
 ·exact ⟨[],.inl ⟨e,rfl⟩,by rw[if_pos e,e];rfl⟩
 ·exact ⟨sub s x.a x.b,.inr (.inl ⟨e,rfl⟩),by rw[if_neg (by omega),if_pos e,e];rfl⟩
 ·refine ⟨zk9 (zb3 (sub s x.a x.b)).1,.inr (.inr (.inl ⟨e,?_,rfl⟩)),by rw[if_neg (by omega),if_neg (by omega),if_pos e,e];rfl⟩;rw[hsub];have hk:k=9:=by
   rw[e]at h4;unfold zb8 at h4
   repeat' split at h4
   all_goals omega
  subst hk;unfold oneM at h3;simp only at h3;split at h3
  ·have h6:=congrArg Prod.fst h3;simp only at h6;unfold zn8 at h6;exfalso;revert h6
   repeat' split
   all_goals omega
  ·split at h3
   ·cases h3
   ·split at h3
    ·cases h3
    ·split at h3
     ·split at h3
      ·cases h3
      ·rename_i hp;have h6:=congrArg (fun x=>x.2.1) h3;simp only at h6;rw[h6]at hp;exact Decidable.not_not.1 hp
     ·split at h3
      ·have h6:=congrArg Prod.fst h3;simp only at h6;unfold zp4 at h6;exfalso;revert h6
       repeat' split
       all_goals omega
      ·cases h3
 ·have hk:k=8:=by
   rw[e]at h4;unfold zb8 at h4
   repeat' split at h4
   all_goals omega
  subst hk;exact⟨za3 s x.a x.b,.inr (.inr (.inr ⟨e,str_unq ⟨h1,h2,h3⟩,rfl⟩)),by rw[if_neg (by omega),if_neg (by omega),if_neg (by omega),e];rfl⟩
def RL7(s:ByteArray)(gR gN n cN gb kd na nb:Nat)(t:Bs)(i:Nat)(v:Value)(lo hi:Nat)(W:World):Prop:=match i with
 |0=>v= .pointer (some ⟨gb,0,none⟩)
 |1=>v= .int .i64 (kd:Int)
 |2=>v= .pointer (some ⟨gR,0,none⟩)
 |3=>v= .pointer (some ⟨gR,0,none⟩)
 |4=>v= .pointer (some ⟨gR,0,none⟩)
 |5=>v= .agg #[.string s,.slice (some ⟨gN,0,none⟩) n cN]
 |6=>v= .pointer (some ⟨gb,1,none⟩)
 |7=>v= .agg #[.int .i64 (na:Int),.int .i64 (nb:Int)]
 |8=>v= .string (s.extract na nb)
 |9=>v= .tuple #[.agg #[.int .i64 (kd:Int),.string (st t),.slice none 0 0,.slice none 0 0],.bool true]
 |10=>v= .tuple #[.agg #[.int .i64 (kd:Int),.string (st t),.slice none 0 0,.slice none 0 0],.bool true]
 |11=>v= .agg #[.int .i64 (kd:Int),.string (st t),.slice none 0 0,.slice none 0 0]
 |12=>v= .bool true
 |13=>v= .pointer (some ⟨lo,0,none⟩)/\hi=lo+1/\Whole W lo 26 #[.int .i64 0,.string ⟨#[]⟩,.slice none 0 0,.slice none 0 0]
 |14=>hi=lo+1/\Whole W lo 26 #[.int .i64 (kd:Int),.string (st t),.slice none 0 0,.slice none 0 0]
 |15=>v= .bool true
 |_=>True
structure NdI(W0 W:World)(gr gb:Nat)(cn rc:Array Value)(w:World):Prop where
 b0:Below W0.heap.size W0 w
 bl:W.grownBy w (some W0.heap.size)
 rd:Whole w W0.heap.size 136 rc
 hn:Whole w gb 149 cn
 hr:Whole w gr 26 #[.int .i64 0,.string ⟨#[]⟩,.slice none 0 0,.slice none 0 0]
 l0:W0.heap.size<W.heap.size
 l1:W.heap.size<=gr
 l2:W.heap.size<=gb
theorem NdI.grow {W0 W w w':World} {gr gb:Nat} {cn rc:Array Value} (h:NdI W0 W gr gb cn rc w)(hb:Below w.heap.size w w'):NdI W0 W gr gb cn rc w':=
 ⟨h.b0.trans (hb.mono h.b0.size),h.bl.trans (zb9 hb _),h.rd.grow hb,h.hn.grow hb,h.hr.grow hb,h.l0,h.l1,h.l2⟩
theorem NdI.call {W0 W w w':World} {gr gb:Nat} {cn rc rc':Array Value} (h:NdI W0 W gr gb cn rc w)(hg:w.grownBy w' (some W0.heap.size))(hrd:Whole w' W0.heap.size 136 rc'):NdI W0 W gr gb cn rc' w':=
 ⟨h.b0.grown hg h.b0.size (fun k e=>by have:=Option.some.inj e;omega),h.bl.trans hg,hrd,za6 h.hn hg (fun e=>by have:=Option.some.inj e;have:=h.l0;have:=h.l2;omega),za6 h.hr hg (fun e=>by have:=Option.some.inj e;have:=h.l0;have:=h.l1;omega),h.l0,h.l1,h.l2⟩
theorem NdI.out {W0 W w:World} {gr gb:Nat} {cn rc:Array Value} (h:NdI W0 W gr gb cn rc w)(a b d f:Value):Whole ((((w.setCell ⟨gr,0,none⟩ a).setCell ⟨gr,1,none⟩ b).setCell ⟨gr,2,none⟩ d).setCell ⟨gr,3,none⟩ f) W0.heap.size 136 rc/\W.grownBy ((((w.setCell ⟨gr,0,none⟩ a).setCell ⟨gr,1,none⟩ b).setCell ⟨gr,2,none⟩ d).setCell ⟨gr,3,none⟩ f) (some W0.heap.size):=by
 have hne:W0.heap.size≠gr:=by have:=h.l0;have:=h.l1;omega
 refine⟨(((h.rd.far (p:=⟨gr,0,none⟩) hne a).far (p:=⟨gr,1,none⟩) hne b).far (p:=⟨gr,2,none⟩) hne d).far (p:=⟨gr,3,none⟩) hne f,h.bl.os,h.bl.tape,h.bl.output,?_,fun k hk hne2=> ?_⟩
 ·simp[World.setCell];exact h.bl.size
 ·have hk2:k≠gr:=by have:=h.l1;omega
  rw[Below.heap_setCell _ _ _ _ hk2,Below.heap_setCell _ _ _ _ hk2,Below.heap_setCell _ _ _ _ hk2,Below.heap_setCell _ _ _ _ hk2];exact h.bl.block k hk hne2
theorem zp1 {B:Nat} {S:Nat->Prop} {w:World} {x:Vt} (h:x.Own 26 9 B S w) {g:Nat} (hg:g<B)(a b c d:Value):x.Own 26 9 B S ((((w.setCell ⟨g,0,none⟩ a).setCell ⟨g,1,none⟩ b).setCell ⟨g,2,none⟩ c).setCell ⟨g,3,none⟩ d):=
 (((h.set hg a).set hg b).set hg c).set hg d
theorem zP6 {tV tS:TypeId} (k:Int)(t:Bs)(B:Nat)(w:World):(Vt.mk k t ⟨none,0,[]⟩ none 0 []).Own tV tS B (fun _=>True) w:=
 .mk k t ⟨none,0,[]⟩ none 0 [] (World.ownsRow_nil _ _ _ _) (fun _ _=>trivial) (World.ownsRow_nil _ _ _ _) (fun _ _=>trivial) (fun i hi=>absurd hi (Nat.not_lt_zero i))
def NodeC(s:ByteArray)(nv:List NV)(gN cN:Nat)(W0:World)(d k:Nat)(v:Vl)(c:Nat):Prop:=
 ∀(lev r:Nat) (W:World),Below W0.heap.size W0 W->Whole W W0.heap.size 136 #[.string s,.slice (some ⟨gN,0,none⟩) nv.length cN,.int .i64 ((r+c:Nat):Int)]->r+c<=4096->1<=lev->lev+d<=33->
  Calls Tryz.prog 115 #[.pointer (some ⟨W0.heap.size,0,none⟩),.int .i64 (k:Int),.int .i64 (lev:Int)] W (zu W0.heap.size #[.string s,.slice (some ⟨gN,0,none⟩) nv.length cN,.int .i64 (r:Int)] v W)
theorem zG1(s:ByteArray)(nv:List NV)(gN cN:Nat)(W0:World)(_hE:Env W0)(_hs:s.size<=65536)(hD:DocR nv gN cN W0)(d k c:Nat)(hk:k<nv.length)(v:Vl)(hkd:nv[k].n.kd=5\/nv[k].n.kd=6)
 (hL: ∀(ok:Option Addr) (ck:Nat) (po:Option Addr) (pn pc:Nat) (lev r:Nat) (W:World),nv[k].k= .slice ok nv[k].n.kids.length ck->Below W0.heap.size W0 W->Whole W W0.heap.size 136 #[.string s,.slice (some ⟨gN,0,none⟩) nv.length cN,.int .i64 ((r+c:Nat):Int)]->r+c<=4096->lev+(d+1)<=33->1<=lev->
  Calls Tryz.prog 154 #[.pointer (some ⟨W0.heap.size,0,none⟩),.agg #[.int .i64 (nv[k].n.kd:Int),.int .i64 (nv[k].n.a:Int),.int .i64 (nv[k].n.b:Int),.int .i64 (nv[k].n.ka:Int),.int .i64 (nv[k].n.kb:Int),.slice ok nv[k].n.kids.length ck,.slice po pn pc],.int .i64 (lev:Int)] W (zu W0.heap.size #[.string s,.slice (some ⟨gN,0,none⟩) nv.length cN,.int .i64 (r:Int)] v W)):NodeC s nv gN cN W0 (d+1) k v (c+1):=by
 intro lev r W hb hw hr hlev hd;have hle:=hD.le;have hcp:=hD.cp;have hn4:=hD.n4;unfold maxLen at hcp;obtain⟨hbk,hbd,hbb,hba,_⟩:=hD.bd k hk;obtain⟨ok,ck,hok,hkle,hkcp,hkc⟩:=hD.kd k hk;obtain⟨po,pn,pc,hpo⟩:=hD.pd k hk;have HND:Hq (∀V,Below W0.heap.size W0 V->V.cell? ⟨gN,k*7,none⟩=some (.int .i64 (nv[k].n.kd:Int))/\V.cell? ⟨gN,k*7+1,none⟩=some (.int .i64 (nv[k].n.a:Int))/\V.cell? ⟨gN,k*7+2,none⟩=some (.int .i64 (nv[k].n.b:Int))/\V.cell? ⟨gN,k*7+3,none⟩=some (.int .i64 (nv[k].n.ka:Int))/\V.cell? ⟨gN,k*7+4,none⟩=some (.int .i64 (nv[k].n.kb:Int))/\V.cell? ⟨gN,k*7+5,none⟩=some (.slice ok nv[k].n.kids.length ck)/\V.cell? ⟨gN,k*7+6,none⟩=some (.slice po pn pc)):=hq (fun V h=>by
  have h1:=(hD.grow h).node hk;rw[hok,hpo]at h1;exact h1)
 have HLS:=hq (fun W1 h1 h2=>hL ok ck po pn pc lev r W1 hok h1 h2 (by omega) (by omega) hlev);have hk56:(((nv[k].n.kd:Int)==5)=true)\/((((nv[k].n.kd:Int)==5)=false)/\(((nv[k].n.kd:Int)==6)=true)):=by
  rcases hkd with h|h
  ·left;rw[h];rfl
  ·right;rw[h];exact⟨rfl,rfl⟩
 clear hkd hL;have HP:Hq (∀(y:Vt) W',y.Own 26 9 W.heap.size (fun _=>True) W'->y.m=v->Whole W' W0.heap.size 136 #[.string s,.slice (some ⟨gN,0,none⟩) nv.length cN,.int .i64 (r:Int)]->W.grownBy W' (some W0.heap.size)->zu W0.heap.size #[.string s,.slice (some ⟨gN,0,none⟩) nv.length cN,.int .i64 (r:Int)] v W (.returned (.tuple #[y.v,.bool true])) W'):=hq (fun y W' h1 h2 h3 h4=>⟨y,rfl,h1,h2,h3,h4⟩);generalize zu W0.heap.size #[.string s,.slice (some ⟨gN,0,none⟩) nv.length cN,.int .i64 (r:Int)] v W=PP at *;have hgRW:=hw.lt;have hkl:(k:Int)<(nv.length:Int):=by omega
 have hk0: ¬(k:Int)<0:=by omega
 have d1:decide ((k:Int)<0)=false:=decide_eq_false hk0;have d2:decide ((nv.length:Int)<=(k:Int))=false:=decide_eq_false (by omega);have d3:decide ((32:Int)<(lev:Int))=false:=decide_eq_false (by omega);have hlr: ∃m:Nat,Hq (((r+(c+1):Nat):Int)=(m:Int))/\Hq ((m:Int)-1=((r+c:Nat):Int))/\1<=m/\m<=4096:=⟨r+(c+1),hq rfl,hq (by omega),by omega,hr⟩;obtain⟨m,HM1,HM2,hm1,hm2⟩:=hlr;rw[HM1.o]at hw;have d4:((m:Int)==0)=false:=beq_eq_false_iff_ne.2 (by omega);clear hD hok hpo hkc hbd;generalize hkd':nv[k].n.kd=kd at *;generalize hna':nv[k].n.a=na at *;generalize hnb':nv[k].n.b=nb at *;generalize nv[k].n.ka=ka at *;generalize nv[k].n.kb=kb at *;generalize nv[k].n.kids.length=nk at *;clear hkd' hna' hnb';have HB0:=hq (za0 W (.cells #[.int .i64 0,.string ⟨#[]⟩,.slice none 0 0,.slice none 0 0] 26));have HR0:=hq (Whole.made W 26 #[.int .i64 0,.string ⟨#[]⟩,.slice none 0 0,.slice none 0 0]);have HRD:=hq (hw.grow HB0.o);have HB1:=hq (hb.trans (HB0.o.mono hb.size));go_enter Tryz.func115,Tryz.ntmps115
 go_upto_region 1 with fail
 obtain⟨gr,HGR⟩: ∃g,Hq (W.heap.size=g):=⟨_,hq rfl⟩;rw[HGR.o]at HR0 ⊢;have hszV:Hq ((W.alloc (.cells #[.int .i64 0,.string ⟨#[]⟩,.slice none 0 0,.slice none 0 0] 26)).heap.size=W.heap.size+1):=hq (World.size_alloc _ _);generalize (W.alloc (.cells #[.int .i64 0,.string ⟨#[]⟩,.slice none 0 0,.slice none 0 0] 26))=V0 at *;obtain⟨r0,r1,r2⟩:=za2 HRD.o;have r3:=HRD.o.free 2;go_upto_region 4 with fail
 have hsub:IntKind.i64.wrap ((m:Int)-1)=(m:Int)-1:=IntWalk.i64_in _ (by omega);have HRD2:=hq (HRD.o.put 2 (.int .i64 ((m:Int)-1)));have HBS:Hq (Below W0.heap.size W0 (V0.setCell ⟨W0.heap.size,2,none⟩ (.int .i64 ((m:Int)-1)))/\W.grownBy (V0.setCell ⟨W0.heap.size,2,none⟩ (.int .i64 ((m:Int)-1))) (some W0.heap.size)/\Whole (V0.setCell ⟨W0.heap.size,2,none⟩ (.int .i64 ((m:Int)-1))) gr 26 #[.int .i64 0,.string ⟨#[]⟩,.slice none 0 0,.slice none 0 0]):=hq ⟨zd9 HB1.o (Nat.le_refl _) _ _,⟨HB0.o.os,HB0.o.tape,HB0.o.output,by simp[World.setCell];exact HB0.o.size,fun q hq1 hne=>by
  rw[Below.heap_setCell _ _ _ _ (fun e=>hne (by rw[e]))];exact HB0.o.block q hq1⟩,HR0.o.far (show gr≠W0.heap.size by have:=HGR.o;omega) _⟩
 clear HRD HR0 HB0 HB1 hszV;generalize (V0.setCell ⟨W0.heap.size,2,none⟩ (.int .i64 ((m:Int)-1)))=V1 at *;clear r0 r1 r2 r3;obtain⟨r0,r1,r2⟩:=za2 HRD2.o;obtain⟨n0,n1,n2,n3,n4,n5,n6⟩:=HND.o V1 HBS.o.1;go_upto_region 5 with fail
 have HI:Hq (NdI W0 W gr V1.heap.size #[.int .i64 (kd:Int),.int .i64 (na:Int),.int .i64 (nb:Int),.int .i64 (ka:Int),.int .i64 (kb:Int),.slice ok nk ck,.slice po pn pc] #[.string s,.slice (some ⟨gN,0,none⟩) nv.length cN,.int .i64 ((m:Int)-1)] (V1.alloc (.cells #[.int .i64 (kd:Int),.int .i64 (na:Int),.int .i64 (nb:Int),.int .i64 (ka:Int),.int .i64 (kb:Int),.slice ok nk ck,.slice po pn pc] 149))):=
  hq ⟨HBS.o.1.alloc HBS.o.1.size _,HBS.o.2.1.trans (zb9 (za0 _ _) _),HRD2.o.alloc _,Whole.made _ _ _,HBS.o.2.2.alloc _,hgRW,Nat.le_of_eq HGR.o,Nat.le_trans (Nat.le_refl _) HBS.o.2.1.size⟩
 clear n0 n1 n2 n3 n4 n5 n6 r0 r1 r2 HRD2 HBS;generalize (V1.alloc (.cells #[.int .i64 (kd:Int),.int .i64 (na:Int),.int .i64 (nb:Int),.int .i64 (ka:Int),.int .i64 (kb:Int),.slice ok nk ck,.slice po pn pc] 149))=V2 at *;generalize V1.heap.size=gb at *;obtain⟨n0,n1,n2,n3,n4,n5,n6⟩:=za9 HI.o.hn;have HLS2:Hq (∀W1,Below W0.heap.size W0 W1->Whole W1 W0.heap.size 136 #[.string s,.slice (some ⟨gN,0,none⟩) nv.length cN,.int .i64 ((m:Int)-1)]->Calls Tryz.prog 154 #[.pointer (some ⟨W0.heap.size,0,none⟩),.agg #[.int .i64 (kd:Int),.int .i64 (na:Int),.int .i64 (nb:Int),.int .i64 (ka:Int),.int .i64 (kb:Int),.slice ok nk ck,.slice po pn pc],.int .i64 (lev:Int)] W1 (zu W0.heap.size #[.string s,.slice (some ⟨gN,0,none⟩) nv.length cN,.int .i64 (r:Int)] v W1)):=hq (fun W1 h1 h2=>HLS.o W1 h1 (by rw[←HM2.o];exact h2));rcases hk56 with e5|⟨e5,e6⟩
 all_goals
  go_wp2_with fail
  refine(HLS2.o V2 HI.o.b0 HI.o.rd).mono ?_;rintro e w9 ⟨y,rfl,hyo,hym,hrd9,hg9⟩;have HI9:=hq (HI.o.call hg9 hrd9);have HYO:=hq (hyo.base (show W.heap.size<=V2.heap.size from HI.o.bl.size));have HYL:=hq (show gr<V2.heap.size from HI.o.hr.lt);obtain⟨yk,yt,⟨yko,ykc,ykl⟩,yo,yc,yis⟩:=y;rw[Vt.v_mk'];obtain⟨z0,z1,z2,z3⟩:=za1 HI9.o.hr;have f0:=HI9.o.hr.free 0;have f1:=HI9.o.hr.free 1;have f2:=HI9.o.hr.free 2;have f3:=HI9.o.hr.free 3;have HOUR:=hq (HI9.o.out (.int .i64 yk) (.string (st yt)) (.slice yko ykl.length ykc) (.slice yo yis.length yc));have HV:=hq (HP.o (Vt.mk yk yt ⟨yko,ykc,ykl⟩ yo yc yis) _ ((zp1 hyo HYL.o (.int .i64 yk) (.string (st yt)) (.slice yko ykl.length ykc) (.slice yo yis.length yc)).base (show W.heap.size<=V2.heap.size from HI.o.bl.size)) hym HOUR.o.1 HOUR.o.2);clear hyo hym hrd9 hg9 HI9 HYO HYL HOUR HP n0 n1 n2 n3 n4 n5 n6;go_wp2_with fail
  refine bodyPost_ret (v:= .tuple #[(Vt.mk yk yt ⟨yko,ykc,ykl⟩ yo yc yis).v,.bool true]) ?_ rfl HV.o;simp[results,Tryz.results115,go_sem,z0,z1,z2,z3,Vt.v_mk']
theorem rdnode_leaf(s:ByteArray)(nv:List NV)(gN cN:Nat)(W0:World)(hE:Env W0)(hs:s.size<=65536)(hD:DocR nv gN cN W0)(d k:Nat)(hk:k<nv.length)(t:Bs)(hT:LeafT nv[k].n.kd (s.extract nv[k].n.a nv[k].n.b) t)(hab:nv[k].n.a<=nv[k].n.b/\nv[k].n.b<=s.size)(hkd:nv[k].n.kd=1\/nv[k].n.kd=2\/nv[k].n.kd=3\/nv[k].n.kd=4):NodeC s nv gN cN W0 (d+1) k (.mk (nv[k].n.kd:Int) t [] []) 1:=by
 intro lev r W hb hw hr hlev hd;have hle:=hD.le;have hcp:=hD.cp;have hn4:=hD.n4;unfold maxLen at hcp;obtain⟨hbk,hbd,hbb,hba,_⟩:=hD.bd k hk;obtain⟨ok,ck,hok,hkle,hkcp,hkc⟩:=hD.kd k hk;obtain⟨po,pn,pc,hpo⟩:=hD.pd k hk;have HND:Hq (∀V,Below W0.heap.size W0 V->V.cell? ⟨gN,k*7,none⟩=some (.int .i64 (nv[k].n.kd:Int))/\V.cell? ⟨gN,k*7+1,none⟩=some (.int .i64 (nv[k].n.a:Int))/\V.cell? ⟨gN,k*7+2,none⟩=some (.int .i64 (nv[k].n.b:Int))/\V.cell? ⟨gN,k*7+3,none⟩=some (.int .i64 (nv[k].n.ka:Int))/\V.cell? ⟨gN,k*7+4,none⟩=some (.int .i64 (nv[k].n.kb:Int))/\V.cell? ⟨gN,k*7+5,none⟩=some (.slice ok nv[k].n.kids.length ck)/\V.cell? ⟨gN,k*7+6,none⟩=some (.slice po pn pc)):=hq (fun V h=>by
  have h1:=(hD.grow h).node hk;rw[hok,hpo]at h1;exact h1)
 have HSL:=hq (fun V=>zM s (.slice (some ⟨gN,0,none⟩) nv.length cN) ⟨_,_,_,rfl⟩ (nv[k].n.a:Int) (nv[k].n.b:Int) V (by unfold maxLen;omega) ⟨by omega,by omega⟩ ⟨by omega,by omega⟩);rw[zD3 hab.1 hab.2]at HSL;have HLF:=hq (fun V (h:Below W0.heap.size W0 V)=>rdleaf_any nv[k].n.kd (s.extract nv[k].n.a nv[k].n.b) t V (hE.grow h) (by rw[ByteArray.size_extract];omega) hT);have h56:nv[k].n.kd≠5/\nv[k].n.kd≠6:=by omega
 have e5:((nv[k].n.kd:Int)==5)=false:=beq_eq_false_iff_ne.2 (by omega);have e6:((nv[k].n.kd:Int)==6)=false:=beq_eq_false_iff_ne.2 (by omega);clear h56 hkd hT hab;have HP:Hq (∀(y:Vt) W',y.Own 26 9 W.heap.size (fun _=>True) W'->y.m=(.mk (nv[k].n.kd:Int) t [] [])->Whole W' W0.heap.size 136 #[.string s,.slice (some ⟨gN,0,none⟩) nv.length cN,.int .i64 (r:Int)]->W.grownBy W' (some W0.heap.size)->zu W0.heap.size #[.string s,.slice (some ⟨gN,0,none⟩) nv.length cN,.int .i64 (r:Int)] (.mk (nv[k].n.kd:Int) t [] []) W (.returned (.tuple #[y.v,.bool true])) W'):=hq (fun y W' h1 h2 h3 h4=>⟨y,rfl,h1,h2,h3,h4⟩);generalize zu W0.heap.size #[.string s,.slice (some ⟨gN,0,none⟩) nv.length cN,.int .i64 (r:Int)] (.mk (nv[k].n.kd:Int) t [] []) W=PP at *;have hgRW:=hw.lt;have hkl:(k:Int)<(nv.length:Int):=by omega
 have hk0: ¬(k:Int)<0:=by omega
 have d1:decide ((k:Int)<0)=false:=decide_eq_false hk0;have d2:decide ((nv.length:Int)<=(k:Int))=false:=decide_eq_false (by omega);have d3:decide ((32:Int)<(lev:Int))=false:=decide_eq_false (by omega);have hlr: ∃m:Nat,Hq (((r+1:Nat):Int)=(m:Int))/\Hq ((m:Int)-1=((r+0:Nat):Int))/\1<=m/\m<=4096:=⟨r+1,hq rfl,hq (by omega),by omega,hr⟩;obtain⟨m,HM1,HM2,hm1,hm2⟩:=hlr;rw[HM1.o]at hw;have d4:((m:Int)==0)=false:=beq_eq_false_iff_ne.2 (by omega);clear hE hD hok hpo hkc hbd;generalize hkd':nv[k].n.kd=kd at *;generalize hna':nv[k].n.a=na at *;generalize hnb':nv[k].n.b=nb at *;generalize nv[k].n.ka=ka at *;generalize nv[k].n.kb=kb at *;generalize nv[k].n.kids.length=nk at *;clear hkd' hna' hnb';have HB0:=hq (za0 W (.cells #[.int .i64 0,.string ⟨#[]⟩,.slice none 0 0,.slice none 0 0] 26));have HR0:=hq (Whole.made W 26 #[.int .i64 0,.string ⟨#[]⟩,.slice none 0 0,.slice none 0 0]);have HRD:=hq (hw.grow HB0.o);have HB1:=hq (hb.trans (HB0.o.mono hb.size));go_enter Tryz.func115,Tryz.ntmps115
 go_upto_region 1 with fail
 obtain⟨gr,HGR⟩: ∃g,Hq (W.heap.size=g):=⟨_,hq rfl⟩;rw[HGR.o]at HR0 ⊢;have hszV:Hq ((W.alloc (.cells #[.int .i64 0,.string ⟨#[]⟩,.slice none 0 0,.slice none 0 0] 26)).heap.size=W.heap.size+1):=hq (World.size_alloc _ _);generalize (W.alloc (.cells #[.int .i64 0,.string ⟨#[]⟩,.slice none 0 0,.slice none 0 0] 26))=V0 at *;obtain⟨r0,r1,r2⟩:=za2 HRD.o;have r3:=HRD.o.free 2;go_upto_region 4 with fail
 have hsub:IntKind.i64.wrap ((m:Int)-1)=(m:Int)-1:=IntWalk.i64_in _ (by omega);have HRD2:=hq (HRD.o.put 2 (.int .i64 ((m:Int)-1)));have HBS:Hq (Below W0.heap.size W0 (V0.setCell ⟨W0.heap.size,2,none⟩ (.int .i64 ((m:Int)-1)))/\W.grownBy (V0.setCell ⟨W0.heap.size,2,none⟩ (.int .i64 ((m:Int)-1))) (some W0.heap.size)/\Whole (V0.setCell ⟨W0.heap.size,2,none⟩ (.int .i64 ((m:Int)-1))) gr 26 #[.int .i64 0,.string ⟨#[]⟩,.slice none 0 0,.slice none 0 0]):=hq ⟨zd9 HB1.o (Nat.le_refl _) _ _,⟨HB0.o.os,HB0.o.tape,HB0.o.output,by simp[World.setCell];exact HB0.o.size,fun q hq1 hne=>by
  rw[Below.heap_setCell _ _ _ _ (fun e=>hne (by rw[e]))];exact HB0.o.block q hq1⟩,HR0.o.far (show gr≠W0.heap.size by have:=HGR.o;omega) _⟩
 clear HRD HR0 HB0 HB1 hszV;generalize (V0.setCell ⟨W0.heap.size,2,none⟩ (.int .i64 ((m:Int)-1)))=V1 at *;clear r0 r1 r2 r3;obtain⟨r0,r1,r2⟩:=za2 HRD2.o;obtain⟨n0,n1,n2,n3,n4,n5,n6⟩:=HND.o V1 HBS.o.1;go_upto_region 5 with fail
 have HI:Hq (NdI W0 W gr V1.heap.size #[.int .i64 (kd:Int),.int .i64 (na:Int),.int .i64 (nb:Int),.int .i64 (ka:Int),.int .i64 (kb:Int),.slice ok nk ck,.slice po pn pc] #[.string s,.slice (some ⟨gN,0,none⟩) nv.length cN,.int .i64 ((m:Int)-1)] (V1.alloc (.cells #[.int .i64 (kd:Int),.int .i64 (na:Int),.int .i64 (nb:Int),.int .i64 (ka:Int),.int .i64 (kb:Int),.slice ok nk ck,.slice po pn pc] 149))):=
  hq ⟨HBS.o.1.alloc HBS.o.1.size _,HBS.o.2.1.trans (zb9 (za0 _ _) _),HRD2.o.alloc _,Whole.made _ _ _,HBS.o.2.2.alloc _,hgRW,Nat.le_of_eq HGR.o,Nat.le_trans (Nat.le_refl _) HBS.o.2.1.size⟩
 clear n0 n1 n2 n3 n4 n5 n6 r0 r1 r2 HRD2 HBS;generalize (V1.alloc (.cells #[.int .i64 (kd:Int),.int .i64 (na:Int),.int .i64 (nb:Int),.int .i64 (ka:Int),.int .i64 (kb:Int),.slice ok nk ck,.slice po pn pc] 149))=V2 at *;generalize V1.heap.size=gb at *;obtain⟨n0,n1,n2,n3,n4,n5,n6⟩:=za9 HI.o.hn;go_upto_region 7 with fail
 refine go_flowS (by kernel_rfl) [(0,65),(1,66),(2,67),(3,68),(4,69),(5,70),(6,71),(7,72),(8,73),(9,74),(10,64),(11,75),(12,76),(13,9),(15,10)] [[0],[1,0],[2],[3,2],[4,3,2],[5,4,3,2],[6],[7,6],[8,5,4,3,2,7,6],[9,1,0,8,5,4,3,2,7,6],[10,9,1,0,8,5,4,3,2,7,6],[11,10,9,1,0,8,5,4,3,2,7,6],[12,10,9,1,0,8,5,4,3,2,7,6],[13],[14],[15,12,10,9,1,0,8,5,4,3,2,7,6]] [(14,13)] [[],[],[],[],[],[],[],[],[],[],[],[],[],[],[11],[]] (RL7 s W0.heap.size gN nv.length cN gb kd na nb t) (fun _ v lo hi=>v= .pointer (some ⟨lo,0,none⟩)/\hi=lo+1) ?A ?hA ?hRB (by kernel_rfl) ?hs ?ht ?he
 case hA=>
  intro f;simp only[putS];go_simp
  rfl
 case hRB=>
  intro x hx v lo hi W h;obtain rfl:=List.mem_singleton.1 hx;exact⟨h.1,h.2.1⟩
 case hs=>
  refine Steps.cons rfl ?_ (Steps.cons rfl ?_ (Steps.cons rfl ?_ (Steps.cons rfl ?_ (Steps.cons rfl ?_ (Steps.cons rfl ?_ (Steps.cons rfl ?_ (Steps.cons rfl ?_ (Steps.cons rfl ?_ (Steps.cons rfl ?_ (Steps.cons rfl ?_ (Steps.cons rfl ?_ (Steps.cons rfl ?_ (Steps.cons rfl ?_ (Steps.cons rfl ?_ Steps.nil))))))))))))))
  ·intro f lo hi W2 hb hd K hK;rw[if_pos (by rfl)];go_simp
   exact hK _ _ (Below.refl _ _) (fun V _ _ _ _=>rfl)
  ·intro f lo hi W2 hb hd K hK;rw[if_pos (by rfl)];have e0:f 0=_:=(hd 0 (by decide) (by decide));clear hd
   try dsimp only at hK
   generalize f 0=x0 at e0 hK ⊢;subst e0;obtain⟨n0,n1,n2,n3,n4,n5,n6⟩:=za9 (HI.o.grow hb).hn;go_simp
   exact hK _ _ (Below.refl _ _) (fun V _ _ _ _=>rfl)
  ·intro f lo hi W2 hb hd K hK;rw[if_pos (by rfl)];go_simp
   exact hK _ _ (Below.refl _ _) (fun V _ _ _ _=>rfl)
  ·intro f lo hi W2 hb hd K hK;rw[if_pos (by rfl)];have e2:f 2=_:=(hd 2 (by decide) (by decide));clear hd
   try dsimp only at hK
   generalize f 2=x2 at e2 hK ⊢;subst e2;go_simp
   exact hK _ _ (Below.refl _ _) (fun V _ _ _ _=>rfl)
  ·intro f lo hi W2 hb hd K hK;rw[if_pos (by rfl)];have e3:f 3=_:=(hd 3 (by decide) (by decide));clear hd
   try dsimp only at hK
   generalize f 3=x3 at e3 hK ⊢;subst e3;go_simp
   exact hK _ _ (Below.refl _ _) (fun V _ _ _ _=>rfl)
  ·intro f lo hi W2 hb hd K hK;rw[if_pos (by rfl)];have e4:f 4=_:=(hd 4 (by decide) (by decide));clear hd
   try dsimp only at hK
   generalize f 4=x4 at e4 hK ⊢;subst e4;have r0:=(HI.o.grow hb).rd.at_ 0;have r1:=(HI.o.grow hb).rd.at_ 1;have r2:=(HI.o.grow hb).rd.at_ 2;go_simp
   exact hK _ _ (Below.refl _ _) (fun V _ _ _ _=>rfl)
  ·intro f lo hi W2 hb hd K hK;rw[if_pos (by rfl)];go_simp
   exact hK _ _ (Below.refl _ _) (fun V _ _ _ _=>rfl)
  ·intro f lo hi W2 hb hd K hK;rw[if_pos (by rfl)];have e6:f 6=_:=(hd 6 (by decide) (by decide));clear hd
   try dsimp only at hK
   generalize f 6=x6 at e6 hK ⊢;subst e6;obtain⟨n0,n1,n2,n3,n4,n5,n6⟩:=za9 (HI.o.grow hb).hn;go_simp
   exact hK _ _ (Below.refl _ _) (fun V _ _ _ _=>rfl)
  ·intro f lo hi W2 hb hd K hK;rw[if_pos (by rfl)];have e5:f 5=_:=(hd 5 (by decide) (by decide));have e7:f 7=_:=(hd 7 (by decide) (by decide));clear hd
   try dsimp only at hK
   generalize f 5=x5 at e5 hK ⊢;generalize f 7=x7 at e7 hK ⊢;subst e5;subst e7;go_simp
   refine(HSL.o W2).mono ?_;rintro e w2 ⟨rfl,hb2⟩;exact hK _ _ hb2 (fun V _ _ _ _=>rfl)
  ·intro f lo hi W2 hb hd K hK;rw[if_pos (by rfl)];have e1:f 1=_:=(hd 1 (by decide) (by decide));have e8:f 8=_:=(hd 8 (by decide) (by decide));clear hd
   try dsimp only at hK
   generalize f 1=x1 at e1 hK ⊢;generalize f 8=x8 at e8 hK ⊢;subst e1;subst e8;go_simp
   refine(HLF.o W2 (HI.o.grow hb).b0).mono ?_;rintro e w2 ⟨rfl,hb2⟩;exact hK _ _ hb2 (fun V _ _ _ _=>rfl)
  ·intro f lo hi W2 hb hd K hK;rw[if_pos (by rfl)];have e9:f 9=_:=(hd 9 (by decide) (by decide));clear hd
   try dsimp only at hK
   generalize f 9=x9 at e9 hK ⊢;subst e9;go_simp
   exact hK _ _ (Below.refl _ _) (fun V _ _ _ _=>rfl)
  ·intro f lo hi W2 hb hd K hK;rw[if_pos (by rfl)];have e10:f 10=_:=(hd 10 (by decide) (by decide));clear hd
   try dsimp only at hK
   generalize f 10=x10 at e10 hK ⊢;subst e10;go_simp
   exact hK _ _ (Below.refl _ _) (fun V _ _ _ _=>rfl)
  ·intro f lo hi W2 hb hd K hK;rw[if_pos (by rfl)];have e10:f 10=_:=(hd 10 (by decide) (by decide));clear hd
   try dsimp only at hK
   generalize f 10=x10 at e10 hK ⊢;subst e10;go_simp
   exact hK _ _ (Below.refl _ _) (fun V _ _ _ _=>rfl)
  ·intro f lo hi W2 hb hd K hK;rw[if_pos (by rfl)];go_simp
   exact hK _ _ (za0 _ _) (fun V _ _ h _=>⟨rfl,World.size_alloc _ _,zz6 h⟩)
  ·intro f lo hi W2 hb hd K hK;rw[if_pos (by rfl)];have e12:f 12=_:=(hd 12 (by decide) (by decide));clear hd
   try dsimp only at hK
   generalize f 12=x12 at e12 hK ⊢;subst e12;go_simp
   exact hK _ _ (Below.refl _ _) (fun V _ _ _ _=>rfl)
 case ht=>
  refine StoresS.cons rfl ?_ StoresS.nil
  ·intro f lo hi W2 hb hlo hd K hK;rw[if_pos (by rfl)];have e11:f 11=_:=(hd 11 (by decide))
   try dsimp only at hK
   generalize f 11=x11 at e11 hK ⊢;subst e11;obtain⟨e13,e13b,hz⟩:=hd 13 (by decide);clear hd;generalize f 13=x13 at e13 hK ⊢;generalize hi 13=h13 at *;generalize lo 13=l13 at *;subst e13;subst e13b;obtain⟨z0,z1,z2,z3⟩:=za1 hz;have f0:=hz.free 0;have f1:=hz.free 1;have f2:=hz.free 2;have f3:=hz.free 3;go_simp
   refine hK _ (zg5 hb hlo _ _ _ _) (by simp[World.setCell]) (fun b hb1 hn=> ?_) (fun U hU hsz hbl=>⟨rfl,?_⟩)
   ·have hne:b≠l13:=fun e=>hn ⟨by omega,by omega⟩
    rw[Below.heap_setCell _ _ _ _ hne,Below.heap_setCell _ _ _ _ hne,Below.heap_setCell _ _ _ _ hne,Below.heap_setCell _ _ _ _ hne]
   ·exact (hbl l13 (Nat.le_refl _) (Nat.lt_succ_self _)).trans (whole_put4S hz _ _ _ _)
 case he=>
  intro f lo hi W2 hb hR hbx;obtain⟨e14,hw14⟩:=hR 14 (.inr (by decide));have e15:f 15=_:=hR 15 (.inl ⟨by decide,by decide⟩);have e12:f 12=_:=hR 12 (.inl ⟨by decide,by decide⟩);have hbx1:=hbx (14,13) (by decide);obtain⟨hl1,hh1,hlo,hhi,e13,hb13⟩:=hbx1;rw[hl1]at hw14;clear e14 hl1 hh1 hhi hb13 hR;have HI9:=hq (HI.o.grow hb);clear n0 n1 n2 n3 n4 n5 n6;generalize f 13=x13 at *;generalize f 15=x15 at *;subst e13;subst e15;clear e12;generalize lo 13=g13 at *;obtain⟨c0,c1,c2,c3⟩:=za1 hw14;obtain⟨z0,z1,z2,z3⟩:=za1 HI9.o.hr;have f0:=HI9.o.hr.free 0;have f1:=HI9.o.hr.free 1;have f2:=HI9.o.hr.free 2;have f3:=HI9.o.hr.free 3;have HOUR:=hq (HI9.o.out (.int .i64 (kd:Int)) (.string (st t)) (.slice none 0 0) (.slice none 0 0));have HV:=hq (HP.o (Vt.mk (kd:Int) t ⟨none,0,[]⟩ none 0 []) _ (zP6 (kd:Int) t W.heap.size ((((W2.setCell ⟨gr,0,none⟩ (.int .i64 (kd:Int))).setCell ⟨gr,1,none⟩ (.string (st t))).setCell ⟨gr,2,none⟩ (.slice none 0 0)).setCell ⟨gr,3,none⟩ (.slice none 0 0))) (by first|rfl|simp[Vt.m]) (by have:=HOUR.o.1;rw[HM2.o]at this;exact this) HOUR.o.2);clear HOUR HP HI9 HI;go_wp2_with fail
  refine bodyPost_ret (v:= .tuple #[(Vt.mk (kd:Int) t ⟨none,0,[]⟩ none 0 []).v,.bool true]) ?_ rfl HV.o;simp[results,Tryz.results115,go_sem,z0,z1,z2,z3,Vt.v_mk']
theorem zC4 {nv:List NV} {k:Nat} {x:JN} (h:(nv.map (·.n))[k]?=some x): ∃hk:k<nv.length,nv[k].n=x:=by
 have hk:k<nv.length:=by
  have:=(List.getElem?_eq_some_iff.1 h).1;rwa [List.length_map]at this
 refine⟨hk,?_⟩;rw[List.getElem?_map,List.getElem?_eq_getElem hk]at h;exact Option.some.inj h
theorem zr8 {α:Type} (l:List α)(z:α) {i:Nat} (h:i<l.length):l.getD i z=l[i]:=by
 rw[List.getD_eq_getElem?_getD,List.getElem?_eq_getElem h];rfl
theorem rdnode_any(s:ByteArray)(nv:List NV)(gN cN:Nat)(W0:World)(hE:Env W0)(hs:s.size<=65536)(hD:DocR nv gN cN W0) {d k c:Nat} {v:Vl} (h:Rv s (nv.map (·.n)) d k v c):NodeC s nv gN cN W0 d k v c:=by
 generalize hns:nv.map (·.n)=ns at h;induction h with
 | @leaf d k x h1 h2 h3=>
   rw[←hns]at h1;obtain⟨hk,rfl⟩:=zC4 h1;obtain⟨t,ht,hv⟩:=zH3 h2;rw[hv];obtain⟨ha,hb,_,_,_,hkd⟩:=h2;exact rdnode_leaf s nv gN cN W0 hE hs hD d k hk t ht ⟨Nat.le_of_lt ha,hb⟩ hkd
 | @arr d k x vs cs h1 h2 h3 h4 h5 h6 ih=>
   rw[←hns]at h1;obtain⟨hk,rfl⟩:=zC4 h1;have hv:Vl.mk (nv[k].n.kd:Int) [] (if nv[k].n.kd=6 then [] else []) vs=Vl.mk 5 [] [] vs:=by rw[h2];rfl
   rw[←hv];have hb:=hD.bd k hk;refine zG1 s nv gN cN W0 hE hs hD d k cs.sum hk _ (.inl h2) (fun ok ck po pn pc lev r W hok hbl hw hr hd hl=> ?_);obtain⟨o,c,hok',hle,hcp,hcell⟩:=hD.kd k hk;obtain⟨rfl,rfl⟩:ok=o/\ck=c:=by
    rw[hok]at hok';cases hok';exact⟨rfl,rfl⟩
   refine zL1 s nv gN cN W0 hE hs hD nv[k].n.kd nv[k].n.a nv[k].n.b nv[k].n.ka nv[k].n.kb nv[k].n.kids ok ck po pn pc [] vs cs ⟨.inl h2,hle,hcp,hb.1,hcell,fun q hq'=>hb.2.2.2.2 _ (List.getElem_mem hq'),h3,h4,fun h=>by omega⟩ lev r (by omega) hr (fun i hi r' V hV hwV hr'=> ?_) W hbl hw;have:=ih i hi (lev+1) r' V hV hwV hr' (by omega) (by omega);rw[zr8 _ _ hi]at this;exact this
 | @obj d k x ks vs cs h1 h2 h3 h4 h5 h6 h7 h8 h9 ih=>
   rw[←hns]at h1 h8;obtain⟨hk,rfl⟩:=zC4 h1;have hv:Vl.mk (nv[k].n.kd:Int) [] (if nv[k].n.kd=6 then ks else []) vs=Vl.mk 6 [] ks vs:=by rw[h2];rfl
   rw[←hv];have hb:=hD.bd k hk;refine zG1 s nv gN cN W0 hE hs hD d k cs.sum hk _ (.inr h2) (fun ok ck po pn pc lev r W hok hbl hw hr hd hl=> ?_);obtain⟨o,c,hok',hle,hcp,hcell⟩:=hD.kd k hk;obtain⟨rfl,rfl⟩:ok=o/\ck=c:=by
    rw[hok]at hok';cases hok';exact⟨rfl,rfl⟩
   refine zL1 s nv gN cN W0 hE hs hD nv[k].n.kd nv[k].n.a nv[k].n.b nv[k].n.ka nv[k].n.kb nv[k].n.kids ok ck po pn pc ks vs cs ⟨.inr h2,hle,hcp,hb.1,hcell,fun q hq'=>hb.2.2.2.2 _ (List.getElem_mem hq'),h4,h5,fun _=>⟨h3,fun i hi hlt=> ?_⟩⟩ lev r (by omega) hr (fun i hi r' V hV hwV hr'=> ?_) W hbl hw
   ·obtain ⟨y,hy1,hy2,hy3⟩:=h8 i hi;rw[zr8 _ _ hi]at hy1;obtain⟨_,rfl⟩:=zC4 hy1;exact⟨hy2,hy3⟩
   ·have:=ih i hi (lev+1) r' V hV hwV hr' (by omega) (by omega);rw[zr8 _ _ hi]at this;exact this
theorem zw9 {s:ByteArray} {ns:List JN} (h:zc2 s= .inr ns):s.size<=65536:=by
 unfold zc2 at h;split at h
 ·cases h
 ·rename_i h0;exact zN2 (Decidable.not_not.1 h0)
theorem Rv.kd {s:ByteArray} {ns:List JN} {d k:Nat} {v:Vl} {c:Nat} (h:Rv s ns d k v c): ∃x,ns[k]?=some x/\x.kd<=6/\ ∀j∈x.kids,j<ns.length:=by
 have key: ∀(kids:List Nat) (ws:List Vl) (cs:List Nat) (e:Nat),(∀i,i<kids.length->Rv s ns e (kids.getD i 0) (ws.getD i zV) (cs.getD i 0))-> ∀j∈kids,j<ns.length:=fun kids ws cs e h j hj=>by
  obtain⟨i,hi,rfl⟩:=List.getElem_of_mem hj;have:=(h i hi).lt;rwa [zr8 _ _ hi]at this
 cases h with
 |leaf h1 h2 h3=>exact⟨_,h1,by obtain⟨_,_,_,_,_,h⟩:=h2;omega,by rw[h3];intro j hj;cases hj⟩
 |arr h1 h2 h3 h4 h5 h6=>exact⟨_,h1,by omega,key _ _ _ _ h6⟩
 |obj h1 h2 h3 h4 h5 h6 h7 h8 h9=>exact⟨_,h1,by omega,key _ _ _ _ h9⟩
theorem doc_r {s:ByteArray} {ns:List JN} {nv:List NV} {vN:Value} {B:Nat} {W:World} (h:zc2 s= .inr ns)(hd:DocIn B nv vN W)(hn:nv.map NV.n=ns):0<nv.length/\ ∃g c,vN= .slice (some ⟨g,0,none⟩) nv.length c/\DocR nv g c W:=by
 have hT:=zP9 h;have hlen:nv.length=ns.length:=by rw[←hn,List.length_map]
 have hpos:0<nv.length:=by rw[hlen];exact hT.pos
 have hsz:=zw9 h;have hat: ∀i (hi:i<nv.length),ns[i]?=some nv[i].n:=fun i hi=>by rw[←hn,List.getElem?_map,List.getElem?_eq_getElem hi];rfl
 obtain⟨gN,cap,hv,hle,hcp,_,_,_,hnd⟩:=hd.node (k:=0) hpos;refine⟨hpos,gN,cap,hv,hle,hcp,hd.n4,hnd,fun i hi=> ?_,fun i hi=> ?_,fun i hi=> ?_⟩
 ·rcases (hd.kr i hi).2 with ⟨hk,h0⟩|⟨g,c,cur,hk,_,_,hc,hm,_⟩
  ·exact ⟨none,0,by rw[hk,h0],by omega,Nat.zero_le _,fun q hq=>by omega⟩
  ·refine ⟨some ⟨g,0,none⟩,c,hk,hc,hm,fun q hq=>⟨g,rfl,?_⟩⟩;have:=(hd.kr i hi).cells (g:=g) (by rw[hk];rfl) q (.int .i64 (nv[i].n.kids[q]:Int)) (by unfold kidC;rw[List.getElem?_map,List.getElem?_eq_getElem hq];rfl);rw[Addr.add_lit,Nat.zero_add]at this;exact this
 ·rcases (hd.pr i hi).2 with ⟨hk,_⟩|⟨g,c,cur,hk,_⟩
  ·exact ⟨none,0,0,hk⟩
  ·exact ⟨_,_,_,hk⟩
 ·have hok:=hT.ok i _ (hat i hi);obtain⟨v,c,hr,_⟩:=(zA7 h).2 i (by rw[←hlen];exact hi);obtain⟨x,hx,hk6,hks⟩:=hr.kd;rw[hat i hi]at hx;cases hx;have h1:=hok.ab;have h2:=hok.bs;have h3:=(hd.kl i hi).1;have h4:=hd.n4;exact⟨by omega,hk6,by omega,by omega,fun j hj=>by rw[hlen];exact hks j hj⟩
def zI7(v:Vl)(W:World)(e:Ending)(W':World):Prop:=
 ∃y:Vt,e= .returned (.tuple #[y.v,.bool true])/\y.Own 26 9 W.heap.size (fun _=>True) W'/\y.m=v/\Below W.heap.size W W'
theorem readNode_any(s:ByteArray)(nv:List NV)(gN cN:Nat)(W:World)(hE:Env W)(hs:s.size<=65536)(hD:DocR nv gN cN W) {k c:Nat} {v:Vl} (h:Rv s (nv.map (·.n)) 32 k v c)(hc:c<=nv.length):
 Calls Tryz.prog 71 #[.agg #[.string s,.slice (some ⟨gN,0,none⟩) nv.length cN],.int .i64 (k:Int)] W (zI7 v W):=by
 have hle:=hD.le;have hcp:=hD.cp;have hn4:=hD.n4;unfold maxLen at hcp;have HND:=hq (fun (W0:World) (hb:Below W.heap.size W W0) (W2:World) (h1:Below W0.heap.size W0 W2) (h2:Whole W2 W0.heap.size 136 #[.string s,.slice (some ⟨gN,0,none⟩) nv.length cN,.int .i64 ((nv.length:Nat):Int)])=>rdnode_any s nv gN cN W0 (hE.grow hb) hs (hD.grow hb) h 1 (nv.length-c) W2 h1 (by rw[Nat.sub_add_cancel hc];exact h2) (by omega) (by omega) (by omega));have HP:Hq (∀(y:Vt) W',y.Own 26 9 W.heap.size (fun _=>True) W'->y.m=v->Below W.heap.size W W'->zI7 v W (.returned (.tuple #[y.v,.bool true])) W'):=hq (fun y W' h1 h2 h3=>⟨y,rfl,h1,h2,h3⟩);generalize zI7 v W=PP at *;generalize nv.length-c=cr at *;clear hE hD h hc;have HB0:=hq (za0 W (.cells #[.string s,.slice (some ⟨gN,0,none⟩) nv.length cN] 78));have HD0:=hq (Whole.made W 78 #[.string s,.slice (some ⟨gN,0,none⟩) nv.length cN]);have hz0:Hq ((W.alloc (.cells #[.string s,.slice (some ⟨gN,0,none⟩) nv.length cN] 78)).heap.size=W.heap.size+1):=hq (World.size_alloc _ _);go_enter Tryz.func71,Tryz.ntmps71
 go_upto_region 1 with fail
 generalize (W.alloc (.cells #[.string s,.slice (some ⟨gN,0,none⟩) nv.length cN] 78))=W1 at *;have HB1:=hq (HB0.o.alloc HB0.o.size (.cells #[.int .i64 0,.string ⟨#[]⟩,.slice none 0 0,.slice none 0 0] 26));have HD1:=hq (HD0.o.alloc (.cells #[.int .i64 0,.string ⟨#[]⟩,.slice none 0 0,.slice none 0 0] 26));have HR1:=hq (Whole.made W1 26 #[.int .i64 0,.string ⟨#[]⟩,.slice none 0 0,.slice none 0 0]);generalize (W1.alloc (.cells #[.int .i64 0,.string ⟨#[]⟩,.slice none 0 0,.slice none 0 0] 26))=W2 at *;obtain⟨gr,HGR⟩: ∃g,Hq (W.heap.size+1=g):=⟨_,hq rfl⟩;rw[hz0.o,HGR.o]at HR1;rw[HGR.o];have d0:=HD1.o.at_ 0;have d1:=HD1.o.at_ 1;go_upto_region 2 with fail
 have HRD:=hq (Whole.made W2 136 #[.string s,.slice (some ⟨gN,0,none⟩) nv.length cN,.int .i64 (nv.length:Int)]);have HB2:=hq (za0 W2 (.cells #[.string s,.slice (some ⟨gN,0,none⟩) nv.length cN,.int .i64 (nv.length:Int)] 136));have hgr2:gr<W2.heap.size:=HR1.o.lt;have HR2:=hq (HR1.o.grow HB2.o);generalize (W2.alloc (.cells #[.string s,.slice (some ⟨gN,0,none⟩) nv.length cN,.int .i64 (nv.length:Int)] 136))=W3 at *;clear d0 d1 HD1 HD0;go_wp2_with fail
 refine(HND.o W2 HB1.o W3 HB2.o HRD.o).mono ?_;rintro e w9 ⟨y,rfl,hyo,hym,hrd9,hg9⟩;have HB9:Hq (Below W.heap.size W w9):=hq ((HB1.o.trans (HB2.o.mono HB1.o.size)).grown hg9 (Nat.le_trans HB1.o.size HB2.o.size) (fun j e=>by have:=Option.some.inj e;have:=HB1.o.size;omega));have HR9:=hq (za6 HR2.o hg9 (fun e=>by have:=Option.some.inj e;omega));have HYO:=hq hyo;have hgr3:gr<W3.heap.size:=Nat.lt_of_lt_of_le hgr2 HB2.o.size;obtain⟨yk,yt,⟨yko,ykc,ykl⟩,yo,yc,yis⟩:=y;rw[Vt.v_mk'];obtain⟨z0,z1,z2,z3⟩:=za1 HR9.o;have f0:=HR9.o.free 0;have f1:=HR9.o.free 1;have f2:=HR9.o.free 2;have f3:=HR9.o.free 3;have hgrW:W.heap.size<=gr:=by have:=HGR.o;omega
 have HV:=hq (HP.o (Vt.mk yk yt ⟨yko,ykc,ykl⟩ yo yc yis) _ ((zp1 HYO.o hgr3 (.int .i64 yk) (.string (st yt)) (.slice yko ykl.length ykc) (.slice yo yis.length yc)).base (show W.heap.size<=W3.heap.size from Nat.le_trans HB1.o.size HB2.o.size)) hym (zh3 HB9.o hgrW (.int .i64 yk) (.string (st yt)) (.slice yko ykl.length ykc) (.slice yo yis.length yc)));clear hyo hym hrd9 hg9 HB9 HYO HP;go_wp2_with fail
 refine bodyPost_ret (v:= .tuple #[(Vt.mk yk yt ⟨yko,ykc,ykl⟩ yo yc yis).v,.bool true]) ?_ rfl HV.o;simp[results,Tryz.results71,go_sem,z0,z1,z2,z3,Vt.v_mk']
def ze2(s:ByteArray)(W:World)(e:Ending)(W':World):Prop:=
 match zc2 s with
 | .inl (wh,er)=>e= .returned (.tuple #[.agg #[.int .i64 0,.string ⟨#[]⟩,.slice none 0 0,.slice none 0 0],.int .i64 (wh:Int),.int .i64 er])/\Below W.heap.size W W'
 | .inr ns=> ∃(y:Vt) (v:Vl),Rv s ns 32 0 v ns.length/\e= .returned (.tuple #[y.v,.int .i64 (s.size:Int),.int .i64 0])/\y.Own 26 9 W.heap.size (fun _=>True) W'/\y.m=v/\Below W.heap.size W W'
theorem rread_bad {s:ByteArray} {W W':World} {wh:Nat} {er:Int} (h:zc2 s= .inl (wh,er))(hb:Below W.heap.size W W'):ze2 s W (.returned (.tuple #[.agg #[.int .i64 0,.string ⟨#[]⟩,.slice none 0 0,.slice none 0 0],.int .i64 (wh:Int),.int .i64 er])) W':=by
 unfold ze2;rw[h];exact⟨rfl,hb⟩
theorem rread_ok {s:ByteArray} {W W':World} {ns:List JN} {y:Vt} {v:Vl} (h:zc2 s= .inr ns)(hr:Rv s ns 32 0 v ns.length)(ho:y.Own 26 9 W.heap.size (fun _=>True) W')(hm:y.m=v)(hb:Below W.heap.size W W'):ze2 s W (.returned (.tuple #[y.v,.int .i64 (s.size:Int),.int .i64 0])) W':=by
 unfold ze2;rw[h];exact⟨y,v,hr,rfl,ho,hm,hb⟩
theorem readRead_any(s:ByteArray)(W:World)(hE:Env W)(hs:s.size<=maxLen):Calls Tryz.prog 32 #[.string s] W (ze2 s W):=by
 have HPA:=hq (fun V (h:Below W.heap.size W V)=>jparse_any s V (hE.grow h).tab hs);have HNB:=hq (fun V (h:Below W.heap.size W V)=>(hE.grow h));unfold maxLen at hs;cases hpm:zc2 s with
 |inl p=>
  obtain⟨wh,er⟩:=p;have HPQ:Hq (∀V,Below W.heap.size W V->Calls Tryz.prog 70 #[.string s] V fun e W'=>e= .returned (.tuple #[.agg #[.string ⟨#[]⟩,.slice none 0 0],.int .i64 (wh:Int),.int .i64 er])/\Below V.heap.size V W'):=hq (fun V hb=>(HPA.o V hb).mono fun e w h=>by unfold zf5 at h;rw[hpm]at h;exact h);have HP:=hq (fun (W':World)=> @rread_bad s W W' wh er hpm);have her:er≠0:=zM1 hpm;have e0:(er==0)=false:=beq_eq_false_iff_ne.2 her;generalize ze2 s W=PP at *;clear HPA HNB hpm;have HB0:=hq (za0 W (.cells #[.int .i64 0,.string ⟨#[]⟩,.slice none 0 0,.slice none 0 0] 26));have HR0:=hq (Whole.made W 26 #[.int .i64 0,.string ⟨#[]⟩,.slice none 0 0,.slice none 0 0]);go_enter Tryz.func32,Tryz.ntmps32
  go_upto_region 1 with fail
  generalize (W.alloc (.cells #[.int .i64 0,.string ⟨#[]⟩,.slice none 0 0,.slice none 0 0] 26))=W1 at *;obtain⟨gr,HGR⟩: ∃g,Hq (W.heap.size=g):=⟨_,hq rfl⟩;rw[HGR.o]at HR0;rw[HGR.o];have hgr1:gr<W1.heap.size:=HR0.o.lt;go_wp2_with fail
  refine(HPQ.o W1 HB0.o).mono ?_;rintro e W2 ⟨rfl,hb2⟩;have HB2:=hq (HB0.o.trans (hb2.mono HB0.o.size));have HR2:=hq (HR0.o.grow hb2);go_upto_region 2 with fail
  have HB3:=hq (HB2.o.alloc HB2.o.size (.cells #[.string ⟨#[]⟩,.slice none 0 0] 78));have HR3:=hq (HR2.o.alloc (.cells #[.string ⟨#[]⟩,.slice none 0 0] 78));generalize (W2.alloc (.cells #[.string ⟨#[]⟩,.slice none 0 0] 78))=W3 at *;obtain⟨z0,z1,z2,z3⟩:=za1 HR3.o;have f0:=HR3.o.free 0;have f1:=HR3.o.free 1;have f2:=HR3.o.free 2;have f3:=HR3.o.free 3;have HV:=hq (HP.o _ (zh3 HB3.o (Nat.le_of_eq HGR.o) (.int .i64 0) (.string ⟨#[]⟩) (.slice none 0 0) (.slice none 0 0)));clear hb2 HB0 HB2 HB3 HR0 HR2 HR3 HPQ HP;go_wp2_with fail
  refine bodyPost_ret (v:= .tuple #[.agg #[.int .i64 0,.string ⟨#[]⟩,.slice none 0 0,.slice none 0 0],.int .i64 (wh:Int),.int .i64 er]) ?_ rfl HV.o;simp[results,Tryz.results32,go_sem,z0,z1,z2,z3]
 |inr ns=>
  have HPQ:Hq (∀V,Below W.heap.size W V->Calls Tryz.prog 70 #[.string s] V fun e W'=> ∃nv vN,e= .returned (.tuple #[.agg #[.string s,vN],.int .i64 (s.size:Int),.int .i64 0])/\DocIn V.heap.size nv vN W'/\nv.map NV.n=ns/\Below V.heap.size V W'):=hq (fun V hb=>(HPA.o V hb).mono fun e w h=>by unfold zf5 at h;rw[hpm]at h;exact h);obtain⟨v0,hv0⟩:=(zA7 hpm).1;have h64:=zw9 hpm;have HDR:=hq (fun (B:Nat) (V:World) (nv:List NV) (vN:Value) (hd:DocIn B nv vN V) (hn:nv.map NV.n=ns)=>(doc_r hpm hd hn).2);have HND:=hq (fun (V:World) (h:Below W.heap.size W V) (nv:List NV) (gN cN:Nat) (hD:DocR nv gN cN V) (hn:nv.map NV.n=ns)=>readNode_any s nv gN cN V (HNB.o V h) h64 hD (k:=0) (by rw[hn];exact hv0) (by rw[←hn,List.length_map];exact Nat.le_refl _));have HP:=hq (fun (W':World) (y:Vt)=> @rread_ok s W W' ns y v0 hpm hv0);generalize ze2 s W=PP at *;clear HPA HNB hpm h64;have HB0:=hq (za0 W (.cells #[.int .i64 0,.string ⟨#[]⟩,.slice none 0 0,.slice none 0 0] 26));have HR0:=hq (Whole.made W 26 #[.int .i64 0,.string ⟨#[]⟩,.slice none 0 0,.slice none 0 0]);go_enter Tryz.func32,Tryz.ntmps32
  go_upto_region 1 with fail
  generalize (W.alloc (.cells #[.int .i64 0,.string ⟨#[]⟩,.slice none 0 0,.slice none 0 0] 26))=W1 at *;obtain⟨gr,HGR⟩: ∃g,Hq (W.heap.size=g):=⟨_,hq rfl⟩;rw[HGR.o]at HR0;rw[HGR.o];have hgr1:gr<W1.heap.size:=HR0.o.lt;go_wp2_with fail
  refine(HPQ.o W1 HB0.o).mono ?_;rintro e W2 ⟨nv,vN,rfl,hd2,hn2,hb2⟩;obtain⟨gN,cN,rfl,hD2⟩:=HDR.o _ _ _ _ hd2 hn2;have HB2:=hq (HB0.o.trans (hb2.mono HB0.o.size));have HR2:=hq (HR0.o.grow hb2);go_upto_region 2 with fail
  have HB3:=hq (HB2.o.alloc HB2.o.size (.cells #[.string s,.slice (some ⟨gN,0,none⟩) nv.length cN] 78));have HR3:=hq (HR2.o.alloc (.cells #[.string s,.slice (some ⟨gN,0,none⟩) nv.length cN] 78));have HD3:=hq (hD2.grow (za0 W2 (.cells #[.string s,.slice (some ⟨gN,0,none⟩) nv.length cN] 78)));have HX3:=hq (Whole.made W2 78 #[.string s,.slice (some ⟨gN,0,none⟩) nv.length cN]);generalize (W2.alloc (.cells #[.string s,.slice (some ⟨gN,0,none⟩) nv.length cN] 78))=W3 at *;generalize W2.heap.size=gd at *;have x0:=HX3.o.at_ 0;have x1:=HX3.o.at_ 1;clear hd2 hD2 HDR;go_wp2_with fail
  refine(HND.o W3 HB3.o nv gN cN HD3.o hn2).mono ?_;rintro e w9 ⟨y,rfl,hyo,hym,hb9⟩;have hgr3:gr<W3.heap.size:=HR3.o.lt;obtain⟨yk,yt,⟨yko,ykc,ykl⟩,yo,yc,yis⟩:=y;rw[Vt.v_mk'];have HB9:=hq ((HB3.o.trans (hb9.mono HB3.o.size)).alloc (HB3.o.trans (hb9.mono HB3.o.size)).size (.cells #[.int .i64 yk,.string (st yt),.slice yko ykl.length ykc,.slice yo yis.length yc] 26));have hb10:=za0 w9 (.cells #[.int .i64 yk,.string (st yt),.slice yko ykl.length ykc,.slice yo yis.length yc] 26);have HR9:=hq ((HR3.o.grow hb9).grow hb10);have HY9:=hq (hyo.grow hb10);have HX9:=hq (Whole.made w9 26 #[.int .i64 yk,.string (st yt),.slice yko ykl.length ykc,.slice yo yis.length yc]);go_upto_region 5 with fail
  generalize (w9.alloc (.cells #[.int .i64 yk,.string (st yt),.slice yko ykl.length ykc,.slice yo yis.length yc] 26))=W9 at *;have hgr9:gr<w9.heap.size:=Nat.lt_of_lt_of_le hgr3 hb9.size;generalize w9.heap.size=g9 at *;obtain⟨z0,z1,z2,z3⟩:=za1 HR9.o;have f0:=HR9.o.free 0;have f1:=HR9.o.free 1;have f2:=HR9.o.free 2;have f3:=HR9.o.free 3;obtain⟨y0,y1,y2,y3⟩:=za1 HX9.o;have HV:=hq (HP.o _ (Vt.mk yk yt ⟨yko,ykc,ykl⟩ yo yc yis) ((zp1 HY9.o hgr3 (.int .i64 yk) (.string (st yt)) (.slice yko ykl.length ykc) (.slice yo yis.length yc)).base (show W.heap.size<=W3.heap.size from HB3.o.size)) hym (zh3 HB9.o (Nat.le_of_eq HGR.o) (.int .i64 yk) (.string (st yt)) (.slice yko ykl.length ykc) (.slice yo yis.length yc)));clear hyo hym hb9 HB9 HY9 HP HB0 HR0 HB2 HR2 HND HPQ hb2 hb10;go_wp2_with fail
  refine bodyPost_ret (v:= .tuple #[(Vt.mk yk yt ⟨yko,ykc,ykl⟩ yo yc yis).v,.int .i64 (s.size:Int),.int .i64 0]) ?_ rfl HV.o;simp[results,Tryz.results32,go_sem,z0,z1,z2,z3,Vt.v_mk']
end Go.Proofs.YtkafjblfjdpdaaaGreatDoor
