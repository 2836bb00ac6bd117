/-
  PLAIN MATHEMATICS of JsonWhole: what json.Parse leaves is whole: its nodes ascend, each kid lies in its piece, commas stand between the pieces.
-/
import Derived.Test.YtkafjblfjdpdaaaGreatDoorJsM
import Derived.Test.YtkafjblfjdpdaaaGreatDoorLexv
namespace Go.Proofs.YtkafjblfjdpdaaaGreatDoor
open Go.RowKit
structure TokL(s:ByteArray)(l:List Tok):Prop where
 in_: ∀t∈l,t.2.1<t.2.2/\t.2.2<=s.size
 sg: ∀t∈l,2<=t.1->t.1<=7->t.2.2=t.2.1+1
 cm: ∀t∈l,t.1=6->byt s t.2.1=44
 up:l.Pairwise fun t u=>t.2.2<=u.2.1
theorem TokL.suffix {s:ByteArray} {l l':List Tok} (h:TokL s l)(hs:l'<:+l):TokL s l':=
 ⟨fun t ht=>h.in_ t (hs.subset ht),fun t ht=>h.sg t (hs.subset ht),fun t ht=>h.cm t (hs.subset ht),h.up.sublist hs.sublist⟩
theorem TokL.head {s:ByteArray} {t:Tok} {r:List Tok} (h:TokL s (t::r)): ∀u∈r,t.2.2<=u.2.1:=(List.pairwise_cons.1 h.up).1
def KidIn(ns:List JN)(ob:Bool)(k j:Nat)(p:Nat×Nat):Prop:=k<j/\ ∃y,ns[j]?=some y/\(ob=true->p.1<=y.ka/\y.kb<y.a)/\(ob=false->p.1<=y.a/\y.ka=0/\y.kb=0)/\y.b<=p.2
inductive Kds (s:ByteArray) (ns:List JN) (ob:Bool) (k:Nat) (a:Nat):List Nat->List (Nat×Nat)->Nat->Prop
 |nil:Kds s ns ob k a [] [] a
 |snoc {kids:List Nat} {pcs:List (Nat×Nat)} {m j t:Nat}:Kds s ns ob k a kids pcs m->(kids≠ []->byt s (m-1)=44)->m<=t->KidIn ns ob k j (m,t)->Kds s ns ob k a (kids++[j]) (pcs++[(m,t)]) (t+1)
theorem KidIn.mono {ns ns':List JN} {ob:Bool} {k j:Nat} {p:Nat×Nat} (h:KidIn ns ob k j p)(he: ∀i,k<i->i<ns.length->ns'[i]?=ns[i]?):KidIn ns' ob k j p:=by
 obtain⟨h1,y,h2,h3⟩:=h;exact⟨h1,y,by rw[he j h1 (List.getElem?_eq_some_iff.1 h2).1];exact h2,h3⟩
theorem Kds.mono {s:ByteArray} {ns ns':List JN} {ob:Bool} {k a:Nat} {kids:List Nat} {pcs:List (Nat×Nat)} {m:Nat} (h:Kds s ns ob k a kids pcs m)(he: ∀i,k<i->i<ns.length->ns'[i]?=ns[i]?):Kds s ns' ob k a kids pcs m:=by
 induction h with
 |nil=>exact .nil
 |snoc _ h2 h3 h4 ih=>exact .snoc ih h2 h3 (h4.mono he)
structure NodeOk(s:ByteArray)(ns:List JN)(i:Nat)(x:JN):Prop where
 ab:x.a<x.b
 bs:x.b<=s.size
 leaf:x.kd≠5->x.kd≠6->x.kids=[]/\x.pcs=[]
 arr:x.kd=5-> ∃m,Kds s ns false i (x.a+1) x.kids x.pcs m/\(x.kids≠ []->m=x.b)
 obj:x.kd=6-> ∃m,Kds s ns true i (x.a+1) x.kids x.pcs m/\(x.kids≠ []->m=x.b)
theorem NodeOk.mono {s:ByteArray} {ns ns':List JN} {i:Nat} {x:JN} (h:NodeOk s ns i x)(he: ∀j,i<j->j<ns.length->ns'[j]?=ns[j]?):NodeOk s ns' i x:=
 ⟨h.ab,h.bs,h.leaf,fun hk=>by obtain⟨m,h1,h2⟩:=h.arr hk;exact⟨m,h1.mono he,h2⟩,fun hk=>by obtain⟨m,h1,h2⟩:=h.obj hk;exact⟨m,h1.mono he,h2⟩⟩
structure Nds(s:ByteArray)(n lo:Nat)(ns:List JN)(l:List Tok):Prop where
 lo: ∀i x,n<=i->ns[i]?=some x->lo<=x.a
 hi: ∀i x,n<=i->ns[i]?=some x-> ∀t∈l,x.a<t.2.1
 ok: ∀i x,n<=i->ns[i]?=some x->NodeOk s ns i x
 asc: ∀i x y,n<=i->ns[i]?=some x->ns[i+1]?=some y->x.a<y.a
def sumK(ns:List JN):Nat:=(ns.map fun n=>n.kids.length).sum
theorem zz9: ∀(ns:List JN) (k b:Nat),sumK (closeN ns k b)=sumK ns
 | [],k,b=>by unfold closeN;simp
 |x::ns,0,b=>by unfold closeN sumK;simp
 |x::ns,k+1,b=>by
  have:=zz9 ns k b;unfold closeN sumK at this ⊢;simp only[List.modify_succ_cons,List.map_cons,List.sum_cons];omega
theorem sumK_add: ∀(ns:List JN) (k j:Nat) (pc:Nat×Nat),k<ns.length->sumK (addN ns k j pc)=sumK ns+1
 | [],k,j,pc,h=>absurd h (by simp)
 |x::ns,0,j,pc,_=>by unfold addN sumK;simp;omega
 |x::ns,k+1,j,pc,h=>by
  have:=sumK_add ns k j pc (by simpa using h);unfold addN sumK at this ⊢;simp only[List.modify_succ_cons,List.map_cons,List.sum_cons];omega
theorem sumK_leaf(ns:List JN)(t:Tok)(key:Nat×Nat):sumK (ns++[ze9 t key])=sumK ns:=by unfold sumK ze9;simp
theorem zt6 {ns:List JN} {k j:Nat} {pc:Nat×Nat} {x:JN} (h:ns[k]?=some x):(addN ns k j pc)[k]?=some {x with kids:=x.kids++[j],pcs:=x.pcs++[pc]}:=by
 unfold addN;rw[List.getElem?_modify,h];simp
theorem zk0 {ns:List JN} {k b:Nat} {x:JN} (h:ns[k]?=some x):(closeN ns k b)[k]?=some {x with b:=b}:=by
 unfold closeN;rw[List.getElem?_modify,h];simp
structure VW(s:ByteArray)(lo:Nat)(key:Nat×Nat)(l:List Tok)(ns:List JN)(l':List Tok)(ns':List JN):Prop where
 y: ∃y,ns'[ns.length]?=some y/\y.ka=key.1/\y.kb=key.2/\ ∀t∈l',y.b<=t.2.1
 sfx:l'<:+l
 nd:Nds s ns.length lo ns' l'
 sum:sumK ns'+ns.length+1=sumK ns+ns'.length
def ValW(s:ByteArray)(v:List Tok->Nat×Nat->List JN->JRes):Prop:= ∀lo l key ns l' ns',TokL s l->(∀t∈l,lo<=t.2.1)->v l key ns= .inr (l',ns')->VW s lo key l ns l' ns'
structure KW(s:ByteArray)(ob:Bool)(fr:Nat)(l:List Tok)(ns:List JN)(l':List Tok)(ns':List JN):Prop where
 y: ∃y,ns'[ns.length]?=some y/\(ob=true->fr<=y.ka/\y.kb<y.a)/\(ob=false->fr<=y.a/\y.ka=0/\y.kb=0)/\ ∀t∈l',y.b<=t.2.1
 sfx:l'<:+l
 nd:Nds s ns.length fr ns' l'
 sum:sumK ns'+ns.length+1=sumK ns+ns'.length
theorem Nds.weak {s:ByteArray} {n lo lo':Nat} {ns:List JN} {l:List Tok} (h:Nds s n lo ns l)(hl:lo'<=lo):Nds s n lo' ns l:=
 ⟨fun i x h1 h2=>Nat.le_trans hl (h.lo i x h1 h2),h.hi,h.ok,h.asc⟩
section
variable {s:ByteArray} {v:List Tok->Nat×Nat->List JN->JRes} {ob:Bool} {z:Nat} {tx:Nat->Nat->Bs}
theorem kidM_whole(hv:ValW s v) {fr:Nat} {had had':List Bs} {l l':List Tok} {ns ns':List JN} (hl:TokL s l)(hfr: ∀t∈l,fr<=t.2.1)(h:kidM v ob z tx had l ns= .inr (had',l',ns')):KW s ob fr l ns l' ns':=by
 unfold kidM at h;cases ob with
 |false=>
  rw[if_neg (by simp)]at h;cases hr:v l (0,0) ns with
  |inl e=>rw[hr]at h;cases h
  |inr p=>
   rw[hr]at h;cases h;have hw:=hv fr _ _ _ _ _ hl hfr hr;obtain⟨y,h1,h2,h3,h4⟩:=hw.y;exact⟨⟨y,h1,(fun h=>by cases h),fun _=>⟨hw.nd.lo _ _ (Nat.le_refl _) h1,h2,h3⟩,h4⟩,hw.sfx,hw.nd,hw.sum⟩
 |true=>
  rw[if_pos rfl]at h;cases h1:ze4 z 8 8 l with
  |inl e=>rw[h1]at h;cases h
  |inr p=>
   obtain⟨t,r⟩:=p;rw[h1]at h;simp only at h;split at h
   ·cases h
   ·cases h2:ze4 z 7 7 r with
    |inl e=>rw[h2]at h;cases h
    |inr p=>
     obtain⟨t2,r2⟩:=p;rw[h2]at h;simp only at h;cases hr:v r2 (t.2.1,t.2.2) ns with
     |inl e=>rw[hr]at h;cases h
     |inr p=>
      rw[hr]at h;cases h;obtain⟨e1,_⟩:=zh1 h1;obtain⟨e2,_⟩:=zh1 h2;subst e1 e2;have hl2:=hl.suffix (List.suffix_cons _ _);have hl3:=hl2.suffix (List.suffix_cons _ _);have q1:=hfr t List.mem_cons_self;have q2:=hl.in_ t List.mem_cons_self;have q3:=hl.head t2 List.mem_cons_self;have q4:=hl2.in_ t2 List.mem_cons_self;have hw:=hv t2.2.2 _ _ _ _ _ hl3 hl2.head hr;obtain⟨y,k1,k2,k3,k4⟩:=hw.y;have q5:=hw.nd.lo _ _ (Nat.le_refl _) k1;refine⟨⟨y,k1,fun _=>⟨by rw[k2];exact q1,by rw[k3];simp only;omega⟩,(fun h=>by cases h),k4⟩,?_,hw.nd.weak (by omega),hw.sum⟩;exact(hw.sfx.trans (List.suffix_cons _ _)).trans (List.suffix_cons _ _)
structure LW(s:ByteArray)(ob:Bool)(k fr:Nat)(x0:JN)(l:List Tok)(ns:List JN)(l':List Tok)(ns':List JN):Prop where
 x: ∃x,ns'[k]?=some x/\x.a=x0.a/\x.ka=x0.ka/\x.kb=x0.kb/\x.kd=x0.kd/\(∃m,Kds s ns' ob k (x.a+1) x.kids x.pcs m/\(x.kids≠ []->m=x.b))/\fr<=x.b/\x.b<=s.size/\ ∀t∈l',x.b<=t.2.1
 sfx:l'<:+l
 nd:Nds s ns.length fr ns' l'
 sum:sumK ns'+ns.length=sumK ns+ns'.length
theorem zH(hx: ∀l key ns l' ns',v l key ns= .inr (l',ns')->Ext l ns l' ns')(hv:ValW s v) {k:Nat}: ∀(f:Nat) {had:List Bs} {fr:Nat} {l l':List Tok} {ns ns':List JN} {x0:JN},ns[k]?=some x0->TokL s l->(∀t∈l,fr<=t.2.1)->
 Kds s ns ob k (x0.a+1) x0.kids x0.pcs fr->(x0.kids≠ []->byt s (fr-1)=44)->zk6 v ob z tx k f had fr l ns= .inr (l',ns')->LW s ob k fr x0 l ns l' ns'
 |0,_,_,_,_,_,_,_,_,_,_,_,_,h=>by cases h
 |f+1,had,fr,l,l',ns,ns',x0,hk,hl,hfr,hkd,hcm,h=>by
  have hkl:k<ns.length:=(List.getElem?_eq_some_iff.1 hk).1;unfold zk6 at h;cases h1:kidM v ob z tx had l ns with
  |inl e=>rw[h1]at h;cases h
  |inr p=>
   obtain⟨had',l1,ns1⟩:=p;have hxt:=zy6 hx h1;have hw:=kidM_whole hv hl hfr h1;rw[h1]at h;simp only at h;cases h2:ze4 z 6 (ze7 ob) l1 with
   |inl e=>rw[h2]at h;cases h
   |inr p=>
    obtain⟨t,r⟩:=p;obtain⟨e2,ht⟩:=zh1 h2;subst e2;rw[h2]at h;simp only at h;have hl1:=hl.suffix hw.sfx;have htl:t∈l:=hw.sfx.subset List.mem_cons_self;have q1:=hfr t htl;have q2:=hl.in_ t htl;have q3:t.2.2=t.2.1+1:=hl.sg t htl (by unfold ze7 at ht;split at ht<;>omega) (by unfold ze7 at ht;split at ht<;>omega);have hk1:ns1[k]?=some x0:=(hxt.at_ k hkl).trans hk;have hln:=hxt.ln;obtain⟨y,y1,y2,y3,y4⟩:=hw.y;have hkid:KidIn ns1 ob k ns.length (fr,t.2.1):=⟨hkl,y,y1,y2,y3,y4 t List.mem_cons_self⟩;have hk2:=zt6 (j:=ns.length) (pc:=(fr,t.2.1)) hk1;have hst: ∀i,k<i->(addN ns1 k ns.length (fr,t.2.1))[i]?=ns1[i]?:=fun i hi=>zt7 (by omega)
    have hkd1:Kds s ns1 ob k (x0.a+1) x0.kids x0.pcs fr:=hkd.mono fun i _ hi=>hxt.at_ i hi
    have hkd2:Kds s (addN ns1 k ns.length (fr,t.2.1)) ob k (x0.a+1) (x0.kids++[ns.length]) (x0.pcs++[(fr,t.2.1)]) (t.2.1+1):=
     .snoc (hkd1.mono fun i hi _=>hst i hi) hcm q1 (hkid.mono fun i hi _=>hst i hi)
    have hsum:=hw.sum;have hsum2:=sumK_add ns1 k ns.length (fr,t.2.1) (by omega);by_cases he:t.1=ze7 ob
    ·rw[if_pos he]at h;cases h;have hst': ∀i,k<i->(closeN (addN ns1 k ns.length (fr,t.2.1)) k t.2.2)[i]?=ns1[i]?:=fun i hi=>(zj6 (by omega)).trans (hst i hi)
     refine⟨⟨_,zk0 hk2,rfl,rfl,rfl,rfl,⟨t.2.1+1,hkd2.mono fun i hi _=>zj6 (by omega),fun _=>q3.symm⟩,by simp only;omega,q2.2,fun u hu=>hl1.head u hu⟩,(List.suffix_cons _ _).trans hw.sfx,⟨?_,?_,?_,?_⟩,?_⟩
     ·intro i x hi hxi;rw[hst' i (by omega)]at hxi;exact hw.nd.lo i x hi hxi
     ·intro i x hi hxi u hu;rw[hst' i (by omega)]at hxi;exact hw.nd.hi i x hi hxi u (List.mem_cons_of_mem _ hu)
     ·intro i x hi hxi;rw[hst' i (by omega)]at hxi;exact(hw.nd.ok i x hi hxi).mono fun j hj _=>hst' j (by omega)
     ·intro i x y hi hxi hyi;rw[hst' i (by omega)]at hxi;rw[hst' (i+1) (by omega)]at hyi;exact hw.nd.asc i x y hi hxi hyi
     ·rw[zz9,zh5,zi1];omega
    ·rw[if_neg he]at h;have ht6:t.1=6:=ht.resolve_right he;have hlr:=hl1.suffix (List.suffix_cons _ _);have hy:=zH hx hv f hk2 hlr hl1.head (q3▸hkd2) (fun _=>by rw[q3,Nat.add_sub_cancel];exact hl.cm t htl ht6) h;have hye:=zH0 hx f (by rw[zi1];omega) h;have hat: ∀i,k<i->i<ns1.length->ns'[i]?=ns1[i]?:=fun i hi hil=>(hye.at_ i (by rw[zi1];exact hil) (by omega)).trans (hst i hi)
     have hysum:=hy.sum;have hynd:=hy.nd;rw[zi1]at hysum hynd;obtain⟨x,x1,x2,x3,x4,x5,x6,x7,x8,x9⟩:=hy.x;refine⟨⟨x,x1,x2,x3,x4,x5,x6,by omega,x8,x9⟩,(hy.sfx.trans (List.suffix_cons _ _)).trans hw.sfx,⟨?_,?_,?_,?_⟩,by omega⟩
     ·intro i x hi hxi;by_cases hil:i<ns1.length
      ·rw[hat i (by omega) hil]at hxi;exact hw.nd.lo i x hi hxi
      ·have:=hynd.lo i x (by omega) hxi;omega
     ·intro i x hi hxi u hu;by_cases hil:i<ns1.length
      ·rw[hat i (by omega) hil]at hxi;exact hw.nd.hi i x hi hxi u (List.mem_cons_of_mem _ (hy.sfx.subset hu))
      ·exact hynd.hi i x (by omega) hxi u hu
     ·intro i x hi hxi;by_cases hil:i<ns1.length
      ·rw[hat i (by omega) hil]at hxi;exact(hw.nd.ok i x hi hxi).mono fun j hj hjl=>hat j (by omega) hjl
      ·exact hynd.ok i x (by omega) hxi
     ·intro i x y hi hxi hyi;by_cases hil:i<ns1.length
      ·rw[hat i (by omega) hil]at hxi;by_cases hil2:i+1<ns1.length
       ·rw[hat (i+1) (by omega) hil2]at hyi;exact hw.nd.asc i x y hi hxi hyi
       ·have a1:=hw.nd.hi i x hi hxi t List.mem_cons_self;have a2:=hynd.lo (i+1) y (by omega) hyi;omega
      ·exact hynd.asc i x y (by omega) hxi hyi
theorem toN_of {ns:List JN} {k:Nat} {x:JN} (h:ns[k]?=some x):toN ns k=x.b:=by unfold toN;rw[h];rfl
theorem listM_whole(hx: ∀l key ns l' ns',v l key ns= .inr (l',ns')->Ext l ns l' ns')(hv:ValW s v) {k:Nat} {l l':List Tok} {ns ns':List JN} {x0:JN} (hk:ns[k]?=some x0)(hl:TokL s l)(hlo: ∀t∈l,x0.b<=t.2.1)(hn:ns.length=k+1)
 (h0:x0.kids=[]/\x0.pcs=[]) (hab:x0.b=x0.a+1) (_hbs:x0.b<=s.size) (h:zh8 v ob z tx k l ns= .inr (l',ns')):LW s ob k x0.b x0 l ns l' ns':=by
 unfold zh8 at h;split at h
 ·rename_i hh;cases h;cases l with
  |nil=>simp at hh
  |cons t r=>
   have q1:=hlo t List.mem_cons_self;have q2:=hl.in_ t List.mem_cons_self;have hst: ∀i,k<i->(closeN ns k (((t::r).head?.map fun t=>t.2.2).getD 0))[i]?=ns[i]?:=fun i hi=>zj6 (by omega)
   have hno: ∀i x,ns.length<=i->(closeN ns k (((t::r).head?.map fun t=>t.2.2).getD 0))[i]?=some x->False:=fun i x hi h=>by
    have:=(List.getElem?_eq_some_iff.1 h).1;rw[zh5]at this;omega
   refine⟨⟨_,zk0 hk,rfl,rfl,rfl,rfl,⟨x0.a+1,by simp only[h0.1,h0.2];exact .nil,fun h=>absurd h0.1 h⟩,?_,q2.2,fun u hu=>hl.head u hu⟩,List.suffix_cons _ _,⟨fun i x hi h=>(hno i x hi h).elim,fun i x hi h=>(hno i x hi h).elim,fun i x hi h=>(hno i x hi h).elim,fun i x y hi h=>(hno i x hi h).elim⟩,?_⟩
   ·show x0.b<=t.2.2;omega
   ·rw[zz9,zh5]
 ·rw[toN_of hk]at h;exact zH hx hv _ hk hl hlo (by rw[h0.1,h0.2,hab];exact .nil) (fun h=>absurd h0.1 h) h
end
theorem leaf_kind(k:Nat):(zb8 k=5->k=4)/\(zb8 k=6->k=2):=by
 unfold zb8
 repeat' split
 all_goals omega
theorem zB5(s:ByteArray)(z:Nat)(tx:Nat->Nat->Bs): ∀d,ValW s (za4 z tx d)
 |0,lo,[],key,ns,l',ns',hl,hlo,h=>by unfold za4 at h;cases h
 |d+1,lo,[],key,ns,l',ns',hl,hlo,h=>by unfold za4 at h;cases h
 |0,lo,t::r,key,ns,l',ns',hl,hlo,h=>by
  unfold za4 at h;split at h<;>cases h
 |d+1,lo,t::r,key,ns,l',ns',hl,hlo,h=>by
  have q1:=hlo t List.mem_cons_self;have q2:=hl.in_ t List.mem_cons_self;have q3:=hl.sg t List.mem_cons_self;have hlr:=hl.suffix (List.suffix_cons _ _);have hk0:(ns++[ze9 t key])[ns.length]?=some (ze9 t key):=by simp
  have hln:(ns++[ze9 t key]).length=ns.length+1:=by simp
  obtain⟨k5,k6⟩:=leaf_kind t.1;have both: ∀ob:Bool,zb8 t.1=(if ob then 6 else 5)->zh8 (za4 z tx d) ob z tx ns.length r (ns++[ze9 t key])= .inr (l',ns')->VW s lo key (t::r) ns l' ns':=fun ob hob h=>by
   have hkd:t.1=4\/t.1=2:=by
    cases ob with
    |false=>exact .inl (k5 hob)
    |true=>exact .inr (k6 hob)
   have q4:t.2.2=t.2.1+1:=q3 (by omega) (by omega);have hw:=listM_whole (zg0 z tx d) (zB5 s z tx d) hk0 hlr (fun u hu=>hl.head u hu) hln ⟨rfl,rfl⟩ q4 q2.2 h;have hxt:=zH2 (zg0 z tx d) (by omega) h;obtain⟨x,x1,x2,x3,x4,x5,x6,x7,x8,x9⟩:=hw.x;have hs:=hw.sum;rw[sumK_leaf,hln]at hs;have ha:x.a=t.2.1:=x2;have hkx:x.kd=zb8 t.1:=x5;have hnd:=hw.nd;rw[hln]at hnd;have q5:x.a<x.b:=by
    have:t.2.2<=x.b:=x7;omega
   have hself: ∀i x',ns.length<=i->ns'[i]?=some x'->(i=ns.length/\x'=x)\/ns.length+1<=i:=fun i x' hi hxi=>by
    by_cases e:i=ns.length
    ·subst e;rw[x1]at hxi;cases hxi;exact .inl ⟨rfl,rfl⟩
    ·exact .inr (by omega)
   refine⟨⟨x,x1,x3,x4,x9⟩,hw.sfx.trans (List.suffix_cons _ _),⟨?_,?_,?_,?_⟩,by omega⟩
   ·intro i x' hi hxi;rcases hself i x' hi hxi with ⟨rfl,rfl⟩|hi2
    ·omega
    ·have:=hnd.lo i x' hi2 hxi;have e:(ze9 t key).b=t.2.2:=rfl;omega
   ·intro i x' hi hxi u hu;rcases hself i x' hi hxi with ⟨rfl,rfl⟩|hi2
    ·have:=x9 u hu;omega
    ·exact hnd.hi i x' hi2 hxi u hu
   ·intro i x' hi hxi;rcases hself i x' hi hxi with ⟨rfl,rfl⟩|hi2
    ·refine ⟨q5,x8,fun h5 h6=> ?_,fun h5=> ?_,fun h6=> ?_⟩
     ·rw[hkx,hob]at h5 h6;cases ob
      ·exact absurd rfl h5
      ·exact absurd rfl h6
     ·cases ob
      ·exact x6
      ·rw[hkx,hob]at h5;cases h5
     ·cases ob
      ·rw[hkx,hob]at h6;cases h6
      ·exact x6
    ·exact hnd.ok i x' hi2 hxi
   ·intro i x' y hi hxi hyi;rcases hself i x' hi hxi with ⟨rfl,rfl⟩|hi2
    ·have:=hnd.lo (ns.length+1) y (Nat.le_refl _) hyi;have e:(ze9 t key).b=t.2.2:=rfl;omega
    ·exact hnd.asc i x' y hi2 hxi hyi
  unfold za4 at h;split at h
  ·cases h
  ·split at h
   ·cases h
   ·split at h
    ·rename_i h5;exact both false h5 h
    ·split at h
     ·rename_i h6;exact both true h6 h
     ·rename_i h5 h6;cases h;have hno: ∀i x',ns.length<=i->(ns++[ze9 t key])[i]?=some x'->i=ns.length/\x'=ze9 t key:=fun i x' hi h=>by
       have h2:=(List.getElem?_eq_some_iff.1 h).1;rw[hln]at h2;obtain rfl:i=ns.length:=by omega
       rw[hk0]at h;cases h;exact⟨rfl,rfl⟩
      refine⟨⟨_,hk0,rfl,rfl,fun u hu=>hl.head u hu⟩,List.suffix_cons _ _,⟨?_,?_,?_,?_⟩,by rw[sumK_leaf,hln];omega⟩
      ·intro i x' hi hxi;obtain⟨rfl,rfl⟩:=hno i x' hi hxi;exact q1
      ·intro i x' hi hxi u hu;obtain⟨rfl,rfl⟩:=hno i x' hi hxi;have:=hl.head u hu;show t.2.1<u.2.1;omega
      ·intro i x' hi hxi;obtain⟨rfl,rfl⟩:=hno i x' hi hxi;exact⟨q2.1,q2.2,fun _ _=>⟨rfl,rfl⟩,fun h=>absurd h h5,fun h=>absurd h h6⟩
      ·intro i x' y hi hxi hyi;obtain⟨rfl,rfl⟩:=hno i x' hi hxi;have:=(List.getElem?_eq_some_iff.1 hyi).1;omega
theorem Chain.pairs: ∀ {l:List Tok} {a b:Nat},Chain l a b->l.Pairwise (fun t u=>t.2.2<=u.2.1)/\ ∀t∈l,a<=t.2.1
 | [],_,_,_=>⟨.nil,fun _ h=>by cases h⟩
 |x::l,a,b,h=>by
  obtain⟨h1,h2,h3,h4,h5,h6⟩:=h;obtain⟨i1,i2⟩:=Chain.pairs h6;refine⟨List.pairwise_cons.2 ⟨i2,i1⟩,fun t ht=> ?_⟩;rcases List.mem_cons.1 ht with rfl|ht
  ·omega
  ·have:=i2 t ht;omega
theorem one_sign {s:ByteArray} {p k e:Nat} (h:oneM s p=(k,e,0))(h2:2<=k)(h7:k<=7):e=p+1/\zn8 (byt s p)=k:=by
 unfold oneM at h;simp only at h;have hw:=wordM_bd (sub s p (zc6 s zi2 p));split at h
 ·cases h;exact⟨rfl,rfl⟩
 ·split at h
  ·have:=(Prod.mk.inj h).1;omega
  ·split at h
   ·have:=(Prod.mk.inj h).1;omega
   ·split at h
    ·split at h
     ·have:=(Prod.mk.inj h).1;omega
     ·have:=(Prod.mk.inj h).1;omega
    ·split at h
     ·have:=(Prod.mk.inj h).1;omega
     ·have:=(Prod.mk.inj h).1;omega
theorem sign_comma {c:Nat} (h:zn8 c=6):c=44:=by
 unfold zn8 at h;split at h;·cases h
 split at h;·cases h
 split at h;·cases h
 split at h;·cases h
 split at h
 ·assumption
 ·split at h<;>cases h
theorem tokens_l {s:ByteArray} (h0:(zd0 s).2.2=0):TokL s (nbl (zd0 s).1):=by
 have h:=h0;have hm: ∀t∈nbl (zd0 s).1,t.2.1<t.2.2/\t.2.2<=s.size/\oneM s t.2.1=(t.1,t.2.2,0):=fun t ht=>zr0 ((List.mem_filter.1 ht).1)
 refine⟨fun t ht=>⟨(hm t ht).1,(hm t ht).2.1⟩,fun t ht h2 h7=>(one_sign (hm t ht).2.2 h2 h7).1,fun t ht h6=>sign_comma (by rw[(one_sign (hm t ht).2.2 (by omega) (by omega)).2,h6]),?_⟩;refine List.Pairwise.sublist List.filter_sublist ?_;unfold zd0 at h ⊢;split
 ·exact .nil
 ·split
  ·exact .nil
  ·rename_i h1 h2;have h3:(zv3 s).2.2=0:=by omega
   unfold zv3 at h3 ⊢;rw[zu0]at h3 ⊢;simp only[List.nil_append]at h3 ⊢;exact(((zw3 s s.size 0 (Nat.zero_le _) (by omega)).2 h3).2).pairs.1
structure Tree(s:ByteArray)(ns:List JN):Prop where
 pos:0<ns.length
 ok: ∀i x,ns[i]?=some x->NodeOk s ns i x
 asc: ∀i x y,ns[i]?=some x->ns[i+1]?=some y->x.a<y.a
 sum:sumK ns+1=ns.length
theorem zP9 {s:ByteArray} {ns:List JN} (h:zc2 s= .inr ns):Tree s ns:=by
 unfold zc2 at h;split at h
 ·cases h
 ·rename_i h0;cases hv:za4 s.size (za3 s) 32 (nbl (zd0 s).1) (0,0) [] with
  |inl e=>rw[hv]at h;cases h
  |inr p=>
   obtain⟨l',ns'⟩:=p;rw[hv]at h;simp only at h;split at h
   ·cases h;have hw:=zB5 s s.size (za3 s) 32 0 _ _ _ _ _ (tokens_l (by omega)) (fun t _=>Nat.zero_le _) hv;have hx:=zg0 _ _ _ _ _ _ _ _ hv;have hs:=hw.sum;have hl:=hx.ln;simp only[List.length_nil]at hs hl;have h00:sumK []=0:=rfl;exact⟨hl,fun i x h=>hw.nd.ok i x (Nat.zero_le _) h,fun i x y h h2=>hw.nd.asc i x y (Nat.zero_le _) h h2,by omega⟩
   ·cases h
end Go.Proofs.YtkafjblfjdpdaaaGreatDoor
