/-
  WALK: the law ValueOrders, over what small answers.
  WALK: the law ValueSorts.
  PLAIN MATHEMATICS: how long a value's text is; what Compact, Canon, Pretty answer.
  WALKS: print.Compact, Canon, Pretty.
  PLAIN MATHEMATICS: a sorted value's text is as long as the value's own.
  PLAIN MATHEMATICS: one text in a line just of one value (PrintApart).
-/
import Derived.Test.YtkafjblfjdpdaaaGreatDoorVtUB
import Derived.Test.YtkafjblfjdpdaaaGreatDoorPrE
set_option maxHeartbeats 8000000
set_option maxRecDepth 1000000
namespace Go.Proofs.YtkafjblfjdpdaaaGreatDoor
open Go.RowKit
def IsM(m:Vl)(a:Value)(V:World):Prop:= ∃y:Vt,a=y.v/\y.Ok V/\y.m=m
structure Pz(w:World)(g gx gy:Nat)(CA CB CX CY:Array Value)(xs ys:Vt)(W:World):Prop where
 lo:Below w.heap.size w W
 a:Whole W g 26 CA
 b:Whole W (g+1) 26 CB
 x:Whole W gx 26 CX
 y:Whole W gy 26 CY
 fx:Fine xs W
 fy:Fine ys W
theorem Pz.grow {w W W':World} {g gx gy:Nat} {CA CB CX CY:Array Value} {xs ys:Vt} (h:Pz w g gx gy CA CB CX CY xs ys W)(hb:Below W.heap.size W W'):Pz w g gx gy CA CB CX CY xs ys W':=
 ⟨za h.lo hb,h.a.grow hb,h.b.grow hb,h.x.grow hb,h.y.grow hb,h.fx.grow hb,h.fy.grow hb⟩
theorem Pz.drew {w W:World} {g gx gy:Nat} {CA CB CX CY:Array Value} {xs ys:Vt} (h:Pz w g gx gy CA CB CX CY xs ys W):Pz w g gx gy CA CB CX CY xs ys W.drew:=h.grow (Below.refl _ _).drew
def SrtM(m:Vl)(V:World)(e:Ending)(V':World):Prop:= ∃a:Value,e= .returned a/\Hq (IsM m a V')/\Below V.heap.size V V'
theorem flat_len(ln:Bs): ∀r:List Bs,(r.flatMap fun y=>(44:UInt8)::(ln++y)).length=(r.map List.length).sum+r.length*(ln.length+1)
 | []=>by simp
 |x::r=>by
  rw[List.flatMap_cons,List.length_append,flat_len ln r];simp only[List.map_cons,List.sum_cons,List.length_cons,List.length_append,Nat.add_mul,Nat.one_mul];omega
theorem commaB_len(ln:Bs): ∀its:List Bs,(zf3 ln its).length<=(its.map List.length).sum+its.length*(ln.length+1)
 | []=>by simp[zf3]
 |x::r=>by
  rw[zf3,List.length_append,flat_len];simp only[List.map_cons,List.sum_cons,List.length_cons,List.length_append,Nat.add_mul,Nat.one_mul];omega
theorem lnB_len {ls:Bool} {n lev:Nat} (hn:n<=8)(hv:lev<=1000):(lnB ls n lev).length<=8001:=by
 unfold lnB;split
 ·have:n*lev<=8*1000:=Nat.mul_le_mul hn hv;simp;omega
 ·simp
theorem listB_len {ls:Bool} {n lev:Nat} (o c:UInt8)(its:List Bs)(hn:n<=8)(hv:lev+1<=1000):(zk7 ls n lev o c its).length<=(its.map List.length).sum+its.length*8002+8003:=by
 have h1:=commaB_len (lnB ls n (lev+1)) its;have h2:=lnB_len (ls:=ls) hn hv;have h3:=lnB_len (ls:=ls) (lev:=lev) hn (by omega);have h4:its.length*((lnB ls n (lev+1)).length+1)<=its.length*8002:=Nat.mul_le_mul_left _ (by omega);unfold zk7;simp only[List.length_cons,List.length_append];split<;>simp only[List.length_nil]<;>omega
theorem qtB_len(t:Bs):(qtB t).length<=6*t.length+2:=by
 unfold qtB zg6;split
 ·have:=zu6 (st t).data.toList;rw[zc7]at this ⊢;simp only[List.length_append,List.length_cons,List.length_nil,List.cons_append];omega
 ·simp
theorem memB_len(ls:Bool)(k x:Bs)(hk:k.length<=1024):(memB ls k x).length<=x.length+6148:=by
 have:=qtB_len k;unfold memB;cases ls<;>simp<;>omega
theorem zip_len(ls:Bool): ∀(ks xs:List Bs),(∀k∈ks,k.length<=1024)->((List.zipWith (memB ls) ks xs).map List.length).sum<=(xs.map List.length).sum+xs.length*6148/\(List.zipWith (memB ls) ks xs).length<=xs.length
 | [],xs,_=>by simp
 |_::_,[],_=>by simp
 |k::ks,x::xs,h=>by
  obtain⟨h1,h2⟩:=zip_len ls ks xs (fun y hy=>h y (List.mem_cons_of_mem _ hy));have h3:=memB_len ls k x (h k List.mem_cons_self);simp only[List.zipWith_cons_cons,List.map_cons,List.sum_cons,List.length_cons];omega
theorem prB_len(ls:Bool)(n:Nat)(hn:n<=8): ∀v:Vl,v.All Sht-> ∀lev:Nat,lev+v.depth<=1000->(prB ls n lev v).length+14200<=30000*v.size:=Vl.ind (fun k t ks is ih h lev hd=>by
 obtain⟨ht,hk⟩:=h.here;have hi:=h.items;simp only[Vl.t,Vl.ks]at ht hk;simp only[Vl.depth]at hd;have hsum: ∀l:List Vl,(∀x∈l,x∈is)->((l.map (prB ls n (lev+1))).map List.length).sum+l.length*14200<=30000*Vl.sizes l:=fun l=>by
  induction l with
  |nil=>intro _;simp[Vl.sizes]
  |cons x l ihl=>
   intro hl;have h1:=ihl (fun y hy=>hl y (List.mem_cons_of_mem _ hy));have hx:=hl x List.mem_cons_self;have h2:=ih x hx (hi x hx) (lev+1) (by have:=Vl.depths_le x hx;omega);simp only[List.map_cons,List.sum_cons,List.length_cons,Vl.sizes];omega
 have hs:=hsum is (fun x hx=>hx);have hsz:(Vl.mk k t ks is).size=Vl.sizes is+1:=by simp only[Vl.size];omega
 rw[prB_mk,hsz,Nat.mul_add];split
 ·simp only[List.length_cons,List.length_nil];omega
 split
 ·have:=qtB_len t;omega
 split
 ·have:=listB_len (ls:=ls) (n:=n) (lev:=lev) 91 93 (is.map (prB ls n (lev+1))) hn (by omega);rw[List.length_map]at this;omega
 split
 ·have h1:=listB_len (ls:=ls) (n:=n) (lev:=lev) 123 125 (List.zipWith (memB ls) ks (is.map (prB ls n (lev+1)))) hn (by omega);obtain⟨h2,h3⟩:=zip_len ls ks (is.map (prB ls n (lev+1))) hk;rw[List.length_map]at h2 h3;omega
 ·omega)
theorem zu4 {v:Vl} (h:zg2 v=true):Good v/\v.size<=4096/\v.depth<=32/\v.k≠7:=by
 unfold zg2 at h;simp only[Bool.and_eq_true,decide_eq_true_eq]at h;obtain⟨h1,h2,h3⟩:=h;refine⟨?_,h1,h2,?_⟩
 ·rw[Vl.allB_and,Bool.and_eq_true]at h3;exact h3.1
 ·obtain ⟨k,t,ks,is⟩:=v;simp only[Vl.allB,Bool.and_eq_true,decide_eq_true_eq]at h3;exact h3.1.2
theorem good_prok {v:Vl}:Good v->v.All Sht->v.All PrOk:=Vl.ind (P:=fun v=>Good v->v.All Sht->v.All PrOk) (fun k t ks is ih hg hs=> .mk k t ks is (by
 obtain⟨h1,h2⟩:=hs.here;simp only[Vl.t,Vl.ks]at h1 h2;refine⟨fun h6=> ?_,?_,fun x hx=> ?_⟩
 ·simp only[Vl.k,Vl.ks,Vl.is]at h6 ⊢;exact(hg.obj h6).1
 ·simp only[Vl.t];omega
 ·simp only[Vl.ks]at hx;have:=h2 x hx;omega) (fun x hx=>ih x hx (hg.items x hx) (hs.items x hx))) v
theorem decM_nil:decM []=false:=by decide
theorem prB_ne(ls:Bool)(n lev:Nat) {v:Vl} (h:zg2 v=true):prB ls n lev v≠ []:=by
 obtain⟨hg,_,_,h7⟩:=zu4 h;obtain⟨k,t,ks,is⟩:=v;have hn:=hg.node;simp only[Vl.k]at h7;rw[prB_mk];rw[show zm8 (.mk k t ks is)=if k=5 then decide (t=[])&&decide (ks=[]) else if k=6 then decide (t=[])&&zf9 ks is.length else(decide (ks=[])&&decide (is=[]))&&zh7 k t from rfl]at hn;split
 ·simp
 split
 ·rename_i h1 h4;subst h4;simp[zh7]at hn;unfold qtB zg6;rw[if_pos hn.2];simp
 split
 ·simp[zk7]
 split
 ·simp[zk7]
 ·rename_i h1 h4 h5 h6;rw[if_neg h5,if_neg h6]at hn;simp only[Bool.and_eq_true]at hn;have hs:=hn.2;unfold zh7 at hs;rw[if_neg h1]at hs;intro ht;subst ht;by_cases h2:k=2
  ·rw[if_pos h2]at hs;simp at hs
  rw[if_neg h2]at hs;by_cases h3:k=3
  ·rw[if_pos h3,decM_nil]at hs;cases hs
  rw[if_neg h3,if_neg h4,if_neg h7]at hs;cases hs
def zn4(v:Vl):Bs×Int:=if zg2 v=true then(prB false 0 0 v,0) else([],1)
def canonM(v:Vl):Bs×Int:=zn4 (if zP1 v=true then zN8 v else zeroL)
def prettyM(v:Vl)(i lv:Int):Bs×Int:=if zg2 v=true/\0<=i/\i<=8/\0<=lv/\lv<=32 then(prB true i.toNat lv.toNat v,0) else([],1)
def TextP(r:Bs×Int)(w:World)(e:Ending)(w':World):Prop:=e= .returned (.tuple #[.string (st r.1),.int .i64 r.2])/\Below w.heap.size w w'
theorem prB_fits {v:Vl} (hr:zg2 v=true)(hs:v.All Sht)(ls:Bool) {n lev:Nat} (hn:n<=8)(hv:lev<=32):(prB ls n lev v).length<=140737488355328:=by
 obtain⟨_,h1,h2,_⟩:=zu4 hr;have:=prB_len ls n hn v hs lev (by omega);omega
structure Pri(x:Vt)(w:World):Prop where
 fine:Fine x w
 sht:x.m.All Sht
theorem Pri.grow {x:Vt} {w w':World} (h:Pri x w)(hb:Below w.heap.size w w'):Pri x w':=⟨h.fine.grow hb,h.sht⟩
def sortM(v:Vl):Vl:=if zP1 v=true then zN8 v else zeroL
def NewP(g:Nat)(l:Bs)(ls:Bool)(n:Int)(w:World)(e:Ending)(w':World):Prop:=e= .returned (.tuple #[])/\Prn w.heap.size g l ls n w'/\Below w.heap.size w w'
theorem new_value(x:Vt)(ls:Bool)(n lev:Nat)(w:World)(hE:Env w)(hx:Pri x w)(hn:n<=8)(hv:lev<=32)(hr:zg2 x.m=true):
 Calls Tryz.prog 89 #[.pointer (some ⟨w.heap.size,0,none⟩),x.v,.int .i64 (lev:Int)] (w.alloc (.cells #[.pointer none,.slice none 0 0,.bool ls,.int .i64 (n:Int)] 100)) (NewP w.heap.size (prB ls n lev x.m) ls (n:Int) w):=by
 obtain⟨hg,h1,h2,_⟩:=zu4 hr;have hb0:=za0 w (.cells #[.pointer none,.slice none 0 0,.bool ls,.int .i64 (n:Int)] 100);have hp:Prn w.heap.size w.heap.size [] ls (n:Int) (w.alloc (.cells #[.pointer none,.slice none 0 0,.bool ls,.int .i64 (n:Int)] 100)):= .inl ⟨Nat.le_refl _,.slice none 0 0,heap_alloc_new w _,World.ownsRow_nil _ _ _ _⟩;refine(pvalue w.heap.size ls n (by omega) hE.tab x [] lev _ hx.fine.ok (good_prok hg hx.sht) hb0 hp (by omega) (by have:=prB_fits hr hx.sht ls hn hv;simpa using this)).mono ?_;rintro e w' ⟨rfl,h3⟩;exact⟨rfl,h3.1,hb0.trans h3.2.1⟩
theorem pcompact(x:Vt)(w:World)(hE:Env w)(hx:Pri x w):Calls Tryz.prog 48 #[x.v] w (TextP (zn4 x.m) w):=by
 have HR:=hq (fun W (h:Below w.heap.size w W)=>vright_any x W (hE.grow h) (hx.fine.ok.grow h) hx.fine.lim (by have:=hx.fine.sz;omega));have HV:=hq (fun (hr:zg2 x.m=true) W (h:Below w.heap.size w W)=>new_value x false 0 0 W (hE.grow h) (hx.grow h) (by omega) (by omega) hr);have HN:=hq (fun (hr:zg2 x.m=true)=>prB_ne false 0 0 hr);have HCM:Hq (zn4 x.m=if zg2 x.m=true then(prB false 0 0 x.m,0) else([],1)):=hq rfl;have HP:Hq (∀(r:Bs×Int) W',zn4 x.m=r->Below w.heap.size w W'->TextP (zn4 x.m) w (.returned (.tuple #[.string (st r.1),.int .i64 r.2])) W'):=hq (fun r W' h1 h2=>by rw[h1];exact⟨rfl,h2⟩);generalize TextP (zn4 x.m) w=PP at *;generalize zn4 x.m=CM at *;generalize prB false 0 0 x.m=PB at *;clear hE hx;obtain⟨k,t,⟨ko,kc,kl⟩,o,c,is⟩:=x;rw[Vt.v_mk']at *;generalize (Vt.mk k t ⟨ko,kc,kl⟩ o c is).m=X at *;have hb0:=za0 w (.cells #[.int .i64 k,.string (st t),.slice ko kl.length kc,.slice o is.length c] 26);have HB0:=hq hb0;have HW0:=hq (Whole.made w 26 #[.int .i64 k,.string (st t),.slice ko kl.length kc,.slice o is.length c]);clear hb0;obtain⟨c0,c1,c2,c3⟩:=za1 HW0.o;go_enter Tryz.func48,Tryz.ntmps48
 go_wp2_with fail
 generalize w.heap.size=g at c0 c1 c2 c3 HW0;generalize (w.alloc (.cells #[.int .i64 k,.string (st t),.slice ko kl.length kc,.slice o is.length c] 26))=V0 at *;refine(HR.o V0 HB0.o).mono ?_;rintro e w1 ⟨rfl,hb1⟩;have HB1:=hq (za HB0.o hb1);have HW1:=hq (HW0.o.grow hb1);obtain⟨d0,d1,d2,d3⟩:=za1 HW1.o;clear HR hb1 c0 c1 c2 c3;by_cases hr:zg2 X=true
 case neg=>
  have hf:zg2 X=false:=by simpa using hr
  have HU:=hq (HP.o ([],1) w1 (by rw[HCM.o,if_neg hr]) HB1.o);rw[hf];clear HP HCM HV HN hr hf;go_wp2_with fail
  first
   |exact HU.o
   |(go_ret
     exact HU.o)
 case pos=>
  have HE:Hq (CM=(PB,0)):=hq (by rw[HCM.o,if_pos hr]);have HC:=hq (HV.o hr w1 HB1.o);have HNE:=hq (HN.o hr);rw[hr];clear HV HN HCM hr;have h00:((0:Nat):Int)=0:=rfl;rw[h00]at HC;obtain⟨e0,e1,e2,e3⟩:=za1 (HW1.o.alloc (.cells #[.pointer none,.slice none 0 0,.bool false,.int .i64 0] 100));clear h00;go_wp2_with fail
  refine HC.o.mono ?_;rintro e w2 ⟨rfl,h2,hb2⟩;have HS:=hq (pString w1.heap.size w1.heap.size PB false 0 w2 h2 HNE.o);have HQ:=hq (fun W'=>HP.o (PB,0) W' HE.o);have HB2:=hq hb2;clear HC HNE h2 hb2 HP HE d0 d1 d2 d3 e0 e1 e2 e3 HW1 HW0;go_wp2_with fail
  refine HS.o.mono ?_;rintro e w3 ⟨rfl,h3⟩;have HU:=hq (HQ.o w3 (za HB1.o (HB2.o.trans h3)));clear HS HQ HB2 h3;go_wp2_with fail
  first
   |exact HU.o
   |(go_ret
     exact HU.o)
def Dlm(r:Bs):Prop:= ∀c t,r=c::t->c=44\/c=93\/c=125\/c=58
def numC(c:UInt8):Bool:=c==45||c==101||za7 c
def sc:Bs->Option (Bs×Bs)
 | []=>none
 | [c]=>if c=34 then some ([],[]) else none
 |c::d::l=>if c=34 then some ([],d::l) else if c=92 then(sc l).map (fun p=>(c::d::p.1,p.2)) else(sc (d::l)).map (fun p=>(c::p.1,p.2))
def hexvP(c:UInt8):Nat:=if c.toNat<58 then c.toNat-48 else c.toNat-87
def firstQ:Bs->UInt8×Bs
 | []=>(0,[])
 | [c]=>(c,[])
 |c::d::l=>if c=92 then(if d=117 then(UInt8.ofNat (hexvP (l.getD 2 0)*16+hexvP (l.getD 3 0)),l.drop 4) else(if d=98 then 8 else if d=102 then 12 else if d=110 then 10 else if d=114 then 13 else if d=116 then 9 else d,l)) else(c,d::l)
def tailB' {α:Type} (c:α->Bs)(l:List α):Bs:=l.flatMap fun x=>44::c x
structure Codes {α:Type} (c:α->Bs)(p:α->Prop):Prop where
 ne: ∀x,p x-> ∃d l,c x=d::l/\d≠93/\d≠125/\d≠44
def Rgt(v:Vl):Prop:=v.allB (fun x=>zm8 x&&decide (x.k≠7))=true
theorem Rgt.here {k:Int} {t:Bs} {ks:List Bs} {is:List Vl} (h:Rgt (.mk k t ks is)):zm8 (.mk k t ks is)=true/\k≠7:=by
 unfold Rgt at h;simp only[Vl.allB,Bool.and_eq_true]at h;exact⟨h.1.1,of_decide_eq_true h.1.2⟩
theorem Rgt.item {k:Int} {t:Bs} {ks:List Bs} {is:List Vl} (h:Rgt (.mk k t ks is)): ∀x∈is,Rgt x:=fun x hx=>by
 unfold Rgt at h ⊢;simp only[Vl.allB,Bool.and_eq_true]at h;exact Vl.allsB_iff.1 h.2 x hx
theorem Rgt.is {k:Int} {t:Bs} {ks:List Bs} {is:List Vl} (h:Rgt (.mk k t ks is)):
 (k=1/\t=[]/\ks=[]/\is=[])\/(k=2/\(t=[116,114,117,101]\/t=[102,97,108,115,101])/\ks=[]/\is=[])\/(k=3/\decM t=true/\ks=[]/\is=[])\/
 (k=4/\(valid (st t)).2=true/\ks=[]/\is=[])\/(k=5/\t=[]/\ks=[])\/(k=6/\t=[]/\ks.length=is.length/\ ∀x∈ks,(valid (st x)).2=true):=by
 obtain⟨h1,h7⟩:=h.here;have e:zm8 (.mk k t ks is)=if k=5 then decide (t=[])&&decide (ks=[]) else if k=6 then decide (t=[])&&zf9 ks is.length else(decide (ks=[])&&decide (is=[]))&&zh7 k t:=rfl
 rw[e]at h1;by_cases k5:k=5
 ·rw[if_pos k5]at h1;simp only[Bool.and_eq_true,decide_eq_true_eq]at h1;exact .inr (.inr (.inr (.inr (.inl ⟨k5,h1⟩))))
 rw[if_neg k5]at h1;by_cases k6:k=6
 ·rw[if_pos k6]at h1;unfold zf9 at h1;simp only[Bool.and_eq_true,decide_eq_true_eq,List.all_eq_true]at h1;exact .inr (.inr (.inr (.inr (.inr ⟨k6,h1.1,h1.2.1,h1.2.2.2.1⟩))))
 rw[if_neg k6]at h1;simp only[Bool.and_eq_true,decide_eq_true_eq]at h1;obtain⟨⟨h2,h3⟩,h4⟩:=h1;unfold zh7 at h4;by_cases k1:k=1
 ·rw[if_pos k1,decide_eq_true_eq]at h4;exact .inl ⟨k1,h4,h2,h3⟩
 rw[if_neg k1]at h4;by_cases k2:k=2
 ·rw[if_pos k2,Bool.or_eq_true,decide_eq_true_eq,decide_eq_true_eq]at h4;exact .inr (.inl ⟨k2,h4,h2,h3⟩)
 rw[if_neg k2]at h4;by_cases k3:k=3
 ·rw[if_pos k3]at h4;exact .inr (.inr (.inl ⟨k3,h4,h2,h3⟩))
 rw[if_neg k3]at h4;by_cases k4:k=4
 ·rw[if_pos k4]at h4;exact .inr (.inr (.inr (.inl ⟨k4,h4,h2,h3⟩)))
 rw[if_neg k4,if_neg h7]at h4;cases h4
def kindC(c:UInt8):Int:=if c=110 then 1 else if c=116\/c=102 then 2 else if c=34 then 4 else if c=91 then 5 else if c=123 then 6 else 3
end Go.Proofs.YtkafjblfjdpdaaaGreatDoor
