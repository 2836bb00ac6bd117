/-
  WALKS: the document's utf, decimal, node, nodes, Open, Right of layer 6.
  WALKS: the document's nodes, Open, Right, at, Get, Copy, Of, Num of layer 6.
  WALK: the document's Get of layer 6.
  PLAIN MATHEMATICS: what is read is in range.
  WALKS: rules.further and its two closures.
  WALKS: rules.Match, whole.
  RULES in memory; WALKS: pointer.Right, rules.Right, rules.Find.
  WALKS: two rows of texts beside each other (the document's Compare, Same of paths); is a row short? (cut out of OrR and OrT)
  WALK: pointer.Index: a step as a number.
  WALK: pointer.below: the number of the item to which a step leads.
  WALK: the iterator of pointer.nodes: from a tree on down along a path.
  WALKS: pointer.nodes, pointer.lead.
  WALK: pointer.Find.
  WALK of reading: read.below.
  WALK of reading: read.At.
-/
import Derived.Test.YtkafjblfjdpdaaaGreatDoorRde
import Derived.Lib.Atoi
set_option maxHeartbeats 4000000
set_option maxRecDepth 1000000
namespace Go.Proofs.YtkafjblfjdpdaaaGreatDoor
open Go.RowKit
def membersR(ks:List Bs)(n:Nat):Bool:=decide (ks.length=n)&&(ks.all (fun k=>(valid (st k)).2)&&decide ks.Nodup)
def nodeR(v:Vl):Bool:=
 if v.k=5 then decide (v.t=[])&&decide (v.ks=[])
 else if v.k=6 then decide (v.t=[])&&membersR v.ks v.is.length
 else(decide (v.ks=[])&&decide (v.is=[]))&&zh7 v.k v.t
def KeyOk(ks:List Bs)(j:Nat):Prop:= ∀i (_:i<j) (hl:i<ks.length),(valid (st ks[i])).2=true/\ ∀q (hq:q<i),ks[q]≠ks[i]
theorem KeyOk.zero(ks:List Bs):KeyOk ks 0:=fun i h _=>absurd h (Nat.not_lt_zero i)
theorem KeyOk.step {ks:List Bs} {j:Nat} (h:KeyOk ks j)(hj:j<ks.length)(hv:(valid (st ks[j])).2=true)(hd: ∀q (hq:q<j),ks[q]≠ks[j]):KeyOk ks (j+1):=fun i hi hl=>by
 by_cases e:i=j
 ·subst e;exact⟨hv,hd⟩
 ·exact h i (by omega) hl
theorem KeyOk.all {ks:List Bs} (h:KeyOk ks ks.length):(ks.all (fun k=>(valid (st k)).2)&&decide ks.Nodup)=true:=by
 simp only[Bool.and_eq_true,List.all_eq_true,decide_eq_true_eq];refine⟨fun x hx=> ?_,?_⟩
 ·obtain ⟨i,hi,rfl⟩:=List.mem_iff_getElem.1 hx;exact(h i hi hi).1
 ·exact List.pairwise_iff_getElem.2 (fun i j hi hj hij=>(h j hj hj).2 i hij)
def okR(h:Bool)(v:Vl):Bool:=nodeR v&&(h||decide (v.k≠7))
theorem rOf_any(t:Bs)(w:World):Calls Tryz.prog 36 #[.string (st t)] w (zm4 4 t w):=by
 have hb0:=za0 w (.cells #[.int .i64 4,.string (st t),.slice none 0 0,.slice none 0 0] 26);obtain⟨r0,r1,r2,r3⟩:=za1 (Whole.made w 26 #[.int .i64 4,.string (st t),.slice none 0 0,.slice none 0 0]);have HV:=hq (show zm4 4 t w (.returned (zl8 4 t).v) (w.alloc (.cells #[.int .i64 4,.string (st t),.slice none 0 0,.slice none 0 0] 26)) from⟨rfl,hb0⟩);generalize zm4 4 t w=PP at *;clear hb0;go_enter Tryz.func36,Tryz.ntmps36
 go_wp2_with fail
 refine bodyPost_ret (v:=(zl8 4 t).v) ?_ rfl HV.o;simp[results,Tryz.results36,go_sem,r0,r1,r2,r3,zo5]
theorem zK4(d:Dec)(he:-9223372036854775808<=d.exp/\d.exp<=9223372036854775807):(zk9 d).length<=d.digits.length+1010:=by
 have h:=(zn0 d.exp he.1 he.2).2;unfold zk9;split
 ·split
  ·simp
  ·simp only[List.length_append];have h1:(if d.neg=true then [45] else([]:Bs)).length<=1:=by split<;>simp
   have h2:(if d.exp≠0 then 101::Lib.itoa d.exp else([]:Bs)).length<=1001:=by split<;>simp<;>omega
   omega
 ·simp
theorem Rv.rngL {s:ByteArray} {ns:List JN} (hs:s.size<=65536) {d k:Nat} {v:Vl} {c:Nat} (h:Rv s ns d k v c):v.All (fun x=>Vl.Rng x/\Lim x):=by
 have hkey: ∀a b,(za3 s a b).length<=1048576:=fun a b=>by
  have h1:=zN1 (s.extract a b);rw[ByteArray.size_extract]at h1;show(zb4 (s.extract a b)).1.length<=1048576;omega
 have hit: ∀(vs:List Vl),(∀i,i<vs.length->(vs.getD i zV).All (fun x=>Vl.Rng x/\Lim x))-> ∀x∈vs,x.All (fun x=>Vl.Rng x/\Lim x):=fun vs h x hx=>by
  obtain⟨i,hi,rfl⟩:=List.getElem_of_mem hx;have:=h i hi;rwa [zr8 _ _ hi]at this
 induction h with
 | @leaf d k x h1 h2 h3=>
   obtain⟨t,ht,hv⟩:=zH3 h2;rw[hv];obtain⟨ha,hb,_,_,_,hkd⟩:=h2;have hx:(s.extract x.a x.b).size<=65536:=by rw[ByteArray.size_extract];omega
   have htl:t.length<=1000000:=by
    rcases ht with ⟨_,rfl⟩|⟨_,rfl⟩|⟨_,h1,rfl⟩|⟨_,h1,rfl⟩
    ·exact Nat.zero_le _
    ·rw[Array.length_toList];exact Nat.le_trans hx (by decide)
    ·have hpr:=zg7 (l:=(s.extract x.a x.b).data.toList) (m:=(zb3 (s.extract x.a x.b).data.toList).1) (by rw[←h1]);have hbd:=zm2 (n:=(zb3 (s.extract x.a x.b).data.toList).1.neg) (D:=(zb3 (s.extract x.a x.b).data.toList).1.digits) (E:=(zb3 (s.extract x.a x.b).data.toList).1.exp) hpr;have:=zK4 (zb3 (s.extract x.a x.b).data.toList).1 ⟨by omega,by omega⟩;omega
    ·have:=zN1 (s.extract x.a x.b);omega
   exact .mk _ _ _ _ ⟨⟨⟨by show(-9223372036854775808:Int)<=(x.kd:Int);omega,by show(x.kd:Int)<=9223372036854775807;omega⟩,by show t.length<=maxLen;unfold maxLen;omega,fun y hy=>by cases hy⟩,by show t.length<=1048576;omega,fun y hy=>by cases hy⟩ (fun y hy=>by cases hy)
 | @arr d k x vs cs h1 h2 h3 h4 h5 h6 ih=>
   exact .mk _ _ _ _ ⟨⟨⟨by show(-9223372036854775808:Int)<=5;decide,by show(5:Int)<=9223372036854775807;decide⟩,Nat.zero_le _,fun y hy=>by cases hy⟩,Nat.zero_le _,fun y hy=>by cases hy⟩ (hit vs (fun i hi=>ih i (by omega)))
 | @obj d k x ks vs cs h1 h2 h3 h4 h5 h6 h7 h8 h9 ih=>
   have hkk: ∀y∈ks,y.length<=1048576:=fun y hy=>by
    obtain⟨i,hi,rfl⟩:=List.getElem_of_mem hy;have hi':i<ks.length:=hi;obtain⟨y,_,_,h12⟩:=h8 i (by omega);rw[zr8 _ _ hi']at h12;rw[h12];exact hkey _ _
   exact .mk _ _ _ _ ⟨⟨⟨by show(-9223372036854775808:Int)<=6;decide,by show(6:Int)<=9223372036854775807;decide⟩,Nat.zero_le _,fun y hy=>Nat.le_trans (hkk y hy) (by decide)⟩,Nat.zero_le _,hkk⟩ (hit vs (fun i hi=>ih i (by omega)))
theorem Rv.rng {s:ByteArray} {ns:List JN} (hs:s.size<=65536) {d k:Nat} {v:Vl} {c:Nat} (h:Rv s ns d k v c):v.All Vl.Rng:=(h.rngL hs).mono (fun _ h=>h.1)
theorem Rv.lim {s:ByteArray} {ns:List JN} (hs:s.size<=65536) {d k:Nat} {v:Vl} {c:Nat} (h:Rv s ns d k v c):v.All Lim:=(h.rngL hs).mono (fun _ h=>h.2)
theorem row_same {w W:World} {B e size n:Nat} {v:Value} {xs:List Value} (h:w.ownsRow B e size v n xs)(hW: ∀g,B<=g->g<w.heap.size->W.heap[g]?=w.heap[g]?):W.ownsRow B e size v n xs:=by
 refine⟨h.1,?_⟩;rcases h.2 with h1|⟨g,cap,cur,h1,h2,h3,h4⟩
 ·exact .inl h1
 ·exact .inr ⟨g,cap,cur,h1,h2,by rw[hW g h2 (Array.getElem?_eq_some_iff.1 h3).1];exact h3,h4⟩
theorem own_same {tV tS:TypeId} {B:Nat} {P:Nat->Prop} {w W:World} {x:Vt} (h:x.Own tV tS B P w)(hW: ∀g,B<=g->g<w.heap.size->W.heap[g]?=w.heap[g]?):x.Own tV tS B P W:=by
 induction h with
 |mk k t ks o c is hks hkb hrow hrb _ ih=>exact .mk k t ks o c is (row_same hks hW) hkb (row_same hrow hW) hrb ih
def bC(l:List Bool):Array Value:=(l.map Value.bool).toArray
def StepPost(W:World)(n:Nat)(l:List Bool)(e:Ending)(W':World):Prop:=(∃g',e= .returned (.slice (some ⟨g',0,none⟩) n n)/\Whole W' g' 4 (bC l))/\Below W.heap.size W W'
def FurPost(W:World)(x:Bs)(r:SRow)(e:Ending)(W':World):Prop:= ∃F caps,e= .returned (.func (.func F) #[] caps)/\Below W.heap.size W W'/\(∀xs w,(callFunc F xs).run Tryz.prog w= .ok (.enter F xs) w)/\
 ∀WW,Below W'.heap.size W' WW-> ∀g f,f.length=r.l.length+1->r.l.length<=1000->Whole WW g 4 (bC f)->Calls Tryz.prog F (#[.slice (some ⟨g,0,none⟩) (r.l.length+1) (r.l.length+1)]++caps) WW (StepPost WW (r.l.length+1) (rowM r.l x f))
def MatchPost(p l:List Bs)(W:World)(e:Ending)(W':World):Prop:=e= .returned (.bool (matchM p l))/\Below W.heap.size W W'
def pgoodB(p:List Bs):Bool:=decide (p.length<=64)&&p.all fun x=>(valid (st x)).2
structure RU where
 p:SRow
 k:Bs
def RU.m(r:RU):List Bs×Bs:=(r.p.l,r.k)
def rgoodB(l:List RU):Bool:=decide (l.length<=32)&&l.all fun r=>(valid (st r.k)).2&&pgoodB r.p.l
def RulesIn(w:World)(o:Option Addr)(l:List RU):Prop:= ∀i (h:i<l.length),∃b f,o=some ⟨b,f,none⟩/\w.cell? ⟨b,f+i*2,none⟩=some l[i].p.v/\w.cell? ⟨b,f+i*2+1,none⟩=some (.string (st l[i].k))/\l[i].p.ok w
theorem RulesIn.grow {w w':World} {o:Option Addr} {l:List RU} (h:RulesIn w o l)(hb:Below w.heap.size w w'):RulesIn w' o l:=fun i hi=>by
 obtain⟨b,f,h1,h2,h3,h4⟩:=h i hi;exact⟨b,f,h1,(hb.cell (p:=⟨b,f+i*2,none⟩) (zn5 h2)).trans h2,(hb.cell (p:=⟨b,f+i*2+1,none⟩) (zn5 h3)).trans h3,h4.grow hb⟩
def Room(l:List Bs):Prop:= ∀x∈l,x.length<=maxLen
structure RulesOk(w:World)(o:Option Addr)(cap:Nat)(l:List RU):Prop where
 le:l.length<=cap
 cp:cap<=maxLen
 rd:RulesIn w o l
 km: ∀r∈l,r.k.length<=maxLen/\Room r.p.l
theorem RulesOk.grow {w w':World} {o:Option Addr} {cap:Nat} {l:List RU} (h:RulesOk w o cap l)(hb:Below w.heap.size w w'):RulesOk w' o cap l:=⟨h.le,h.cp,h.rd.grow hb,h.km⟩
def BoolPost(v:Bool)(W:World)(e:Ending)(W':World):Prop:=e= .returned (.bool v)/\Below W.heap.size W W'
def CompPost(la lb:List Bs)(w:World)(e:Ending)(w':World):Prop:=(∃c:Int,e= .returned (.int .i64 c)/\(c=0↔la=lb))/\Below w.heap.size w w'
structure ShortL(l:List Bs):Prop where
 len:l.length<=200
 each: ∀x∈l,x.length<=1024
def ShortPost(l:List Bs)(w:World)(e:Ending)(w':World):Prop:=(∃v:Bool,e= .returned (.bool v)/\(v=true->ShortL l))/\w'=w
def digV(s:ByteArray)(pos:Nat):Prop:=48<=byt s pos/\byt s pos<=57
def zM3(l:Bs):Option Nat:=if l=[]\/9<l.length\/(l.head?=some 48/\l≠ [48]) then none else Lib.decNat l
def IdxPost(l:Bs)(w:World)(e:Ending)(w':World):Prop:=e= .returned (.tuple #[.int .i64 (((zM3 l).getD 0:Nat):Int),.bool (zM3 l).isSome])/\Below w.heap.size w w'
theorem bytT(s:ByteArray)(k:Nat)(hk:k<s.data.toList.length):(s.data.toList[k]).toNat=byt s k:=by
 rw[zb6 s k (by rw[Array.length_toList]at hk;exact hk)];rfl
def belowM(v:Vl)(s:Bs):Int×Bool:=
 if v.k=6 then(ixI v.ks s,decide (0<=ixI v.ks s))
 else if v.k=5 then((((zM3 s).getD 0:Nat):Int),(zM3 s).isSome&&decide ((zM3 s).getD 0<v.is.length))
 else(0,false)
def BlwPost(r:Int×Bool)(w:World)(e:Ending)(w':World):Prop:=e= .returned (.tuple #[.int .i64 r.1,.bool r.2])/\Below w.heap.size w w'
end Go.Proofs.YtkafjblfjdpdaaaGreatDoor
namespace Go.Proofs.YtkafjblfjdpdaaaGreatDoor
open Go.RowKit Go.Shelf
attribute [local go_sem] Oper.semAt_some
def nodesM:List Bs->Nat×Nat×Vt->List (Nat×Nat×Vt)
 | [],y=> [y]
 |s::r,y=>y::(if (belowM y.2.2.m s).2=true then(match y.2.2.o,y.2.2.is[(belowM y.2.2.m s).1.toNat]? with
  |some a,some z=>nodesM r (a.block,a.off+(belowM y.2.2.m s).1.toNat * 4,z)
  |_,_=> []) else [])
def KpN(n₀ b1 b2:Nat)(A B:World):Prop:=Below n₀ A B/\B.heap[b1]?=A.heap[b1]?/\B.heap[b2]?=A.heap[b2]?
end Go.Proofs.YtkafjblfjdpdaaaGreatDoor
namespace Go.Proofs.YtkafjblfjdpdaaaGreatDoor
open Go.RowKit Go.Shelf
attribute [local go_sem] Oper.semAt_some
def lastP(v:Value)(l:List (Nat×Nat×Vt)):Value:=match l.getLast? with
 |some y=> .pointer (some ⟨y.1,y.2.1,none⟩)
 |none=>v
def LeadPost(LL:List (Nat×Nat×Vt))(n:Nat)(v:Value)(w:World)(e:Ending)(w':World):Prop:=e= .returned (.tuple #[lastP v LL,.bool (decide (LL.length=n+1))])/\Below w.heap.size w w'
def pgetM:List Bs->Vl->Option Vl
 | [],v=>some v
 |s::r,v=>if (belowM v s).2=true then(match v.is[(belowM v s).1.toNat]? with
  |some z=>pgetM r z
  |none=>none) else none
def pfindM(v:Vl)(path:List Bs):Option Vl:=if pgoodB path=true/\zP1 v=true then pgetM path v else none
def kidAt(kd:Nat)(ks:List Bs)(kids:List Nat)(p:Bs):Option Nat:=
 if kd=5 then(zM3 p).bind (fun n=>kids[n]?) else if kd=6 then(ixOf ks p).bind (fun n=>kids[n]?) else none
def KidAtPost(o:Option Nat)(W:World)(e:Ending)(W':World):Prop:=e= .returned (.tuple #[.int .i64 ((o.getD 0:Nat):Int),.bool o.isSome])/\Below W.heap.size W W'
def RLI(s:ByteArray)(gn gN n cN:Nat)(b kl ck j kid:Nat)(name:Bs)(i:Nat)(v:Value)(_ _:Nat)(_:World):Prop:=match i with
 |0=>v= .agg #[.string s,.slice (some ⟨gN,0,none⟩) n cN]
 |1=>v= .pointer (some ⟨gn,5,none⟩)
 |2=>v= .slice (some ⟨b,0,none⟩) kl ck
 |3=>v= .int .i64 (j:Int)
 |4=>v= .pointer (some ⟨b,j,none⟩)
 |5=>v= .int .i64 (kid:Int)
 |6=>v= .tuple #[.string (st name),.bool true]
 |7=>v= .tuple #[.string (st name),.bool true]
 |8=>v= .string (st name)
 |9=>v= .bool true
 |10=>v= .string (st name)
 |11=>v= .bool true
 |_=>True
def kidKs(s:ByteArray)(ns:List JN)(kids:List Nat):List Bs:=kids.map fun j=>match ns[j]? with|some y=>za3 s y.ka y.kb|none=> []
def kidOf(s:ByteArray)(ns:List JN)(k:Nat)(p:Bs):Option Nat:=match ns[k]? with
 |none=>none
 |some x=>kidAt x.kd (kidKs s ns x.kids) x.kids p
def atM(s:ByteArray)(ns:List JN):List Bs->Nat->Option Nat
 | [],k=>some k
 |p::r,k=>(kidOf s ns k p).bind (atM s ns r)
def atP(s:ByteArray)(ns:List JN)(path:List Bs):Option Nat:=if pgoodB path=true then atM s ns path 0 else none
def RLJ(s:ByteArray)(gd gN n cN k kd na nb ka kb nk:Nat)(ok:Option Addr)(ck:Nat)(po:Option Addr)(pn pc:Nat)(p:Bs)(o:Option Nat)(i:Nat)(v:Value)(_ _:Nat)(_:World):Prop:=match i with
 |0=>v= .agg #[.string s,.slice (some ⟨gN,0,none⟩) n cN]
 |1=>v= .pointer (some ⟨gd,1,none⟩)
 |2=>v= .slice (some ⟨gN,0,none⟩) n cN
 |3=>v= .int .i64 (k:Int)
 |4=>v= .pointer (some ⟨gN,k*7,none⟩)
 |5=>v= .agg #[.int .i64 (kd:Int),.int .i64 (na:Int),.int .i64 (nb:Int),.int .i64 (ka:Int),.int .i64 (kb:Int),.slice ok nk ck,.slice po pn pc]
 |6=>v= .string (st p)
 |7=>v= .tuple #[.int .i64 ((o.getD 0:Nat):Int),.bool o.isSome]
 |8=>v= .tuple #[.int .i64 ((o.getD 0:Nat):Int),.bool o.isSome]
 |9=>v= .int .i64 ((o.getD 0:Nat):Int)
 |10=>v= .bool o.isSome
 |11=>v= .int .i64 ((o.getD 0:Nat):Int)
 |12=>v= .bool o.isSome
 |_=>True
end Go.Proofs.YtkafjblfjdpdaaaGreatDoor
