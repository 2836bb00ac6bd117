/-
  PLAIN MATHEMATICS of reading: the value of a node of what json.Parse leaves.
  WALK: value.objects.
  WALK: value.compare.
  WALKS: value.Compare, Same.
  WALKS: value.Sorted, Copy: remake in two orders.
  WALKS: value.Sorted, Copy, Get, Of, Num.
  WALKS: value.Of, Num; the law's Row, Map.
  WALK: value.Get.
-/
import Derived.Test.YtkafjblfjdpdaaaGreatDoorJwM
import Derived.Test.YtkafjblfjdpdaaaGreatDoorVtNT
set_option maxHeartbeats 4000000
set_option maxRecDepth 1000000
namespace Go.Proofs.YtkafjblfjdpdaaaGreatDoor
open Go.RowKit
def TokOk(s:ByteArray)(t:Tok):Prop:=t.2.1<t.2.2/\t.2.2<=s.size/\oneM s t.2.1=(t.1,t.2.2,0)
def zC8(s:ByteArray)(a b:Nat):Prop:=a<b/\b<=s.size/\oneM s a=(8,b,0)
def LeafOk(s:ByteArray)(x:JN):Prop:=x.a<x.b/\x.b<=s.size/\ ∃k,oneM s x.a=(k,x.b,0)/\x.kd=zb8 k/\(x.kd=1\/x.kd=2\/x.kd=3\/x.kd=4)
def leafV(s:ByteArray)(x:JN):Vl:=
 if x.kd=1 then .mk 1 [] [] [] else if x.kd=2 then .mk 2 (sub s x.a x.b) [] [] else if x.kd=3 then .mk 3 (zk9 (zb3 (sub s x.a x.b)).1) [] [] else .mk 4 (za3 s x.a x.b) [] []
def zV:Vl:= .mk 0 [] [] []
inductive Rv (s:ByteArray) (ns:List JN):Nat->Nat->Vl->Nat->Prop
 |leaf {d k:Nat} {x:JN}:ns[k]?=some x->LeafOk s x->x.kids=[]->Rv s ns (d+1) k (leafV s x) 1
 |arr {d k:Nat} {x:JN} {vs:List Vl} {cs:List Nat}:ns[k]?=some x->x.kd=5->vs.length=x.kids.length->cs.length=x.kids.length->(∀i,i<x.kids.length->k<x.kids.getD i 0)->(∀i,i<x.kids.length->Rv s ns d (x.kids.getD i 0) (vs.getD i zV) (cs.getD i 0))->Rv s ns (d+1) k (.mk 5 [] [] vs) (cs.sum+1)
 |obj {d k:Nat} {x:JN} {ks:List Bs} {vs:List Vl} {cs:List Nat}:ns[k]?=some x->x.kd=6->ks.length=x.kids.length->vs.length=x.kids.length->cs.length=x.kids.length->(∀i,i<x.kids.length->k<x.kids.getD i 0)->ks.Nodup->
  (∀i,i<x.kids.length-> ∃y,ns[x.kids.getD i 0]?=some y/\zC8 s y.ka y.kb/\ks.getD i []=za3 s y.ka y.kb)->
  (∀i,i<x.kids.length->Rv s ns d (x.kids.getD i 0) (vs.getD i zV) (cs.getD i 0))->Rv s ns (d+1) k (.mk 6 [] ks vs) (cs.sum+1)
section
variable {s:ByteArray} {ns ns':List JN}
theorem Rv.lt {d k:Nat} {v:Vl} {c:Nat} (h:Rv s ns d k v c):k<ns.length:=by
 cases h with
 |leaf h=>exact(List.getElem?_eq_some_iff.1 h).1
 |arr h=>exact(List.getElem?_eq_some_iff.1 h).1
 |obj h=>exact(List.getElem?_eq_some_iff.1 h).1
theorem Rv.mono {d k:Nat} {v:Vl} {c:Nat} (h:Rv s ns d k v c):(∀i,k<=i->i<ns.length->ns'[i]?=ns[i]?)->Rv s ns' d k v c:=by
 induction h with
 |leaf h1 h2 h3=>exact fun he=> .leaf (by rw[he _ (Nat.le_refl _) (List.getElem?_eq_some_iff.1 h1).1];exact h1) h2 h3
 |arr h1 h2 h3 h4 h5 _ ih=>exact fun he=> .arr (by rw[he _ (Nat.le_refl _) (List.getElem?_eq_some_iff.1 h1).1];exact h1) h2 h3 h4 h5 (fun i hi=>ih i hi (fun j hj hl=>he j (by have:=h5 i hi;omega) hl))
 |obj h1 h2 h3 h4 h5 h6 h7 h8 _ ih=>
  exact fun he=> .obj (by rw[he _ (Nat.le_refl _) (List.getElem?_eq_some_iff.1 h1).1];exact h1) h2 h3 h4 h5 h6 h7 (fun i hi=>by
   obtain⟨y,h9,h10⟩:=h8 i hi;exact⟨y,by rw[he _ (by have:=h6 i hi;omega) (List.getElem?_eq_some_iff.1 h9).1];exact h9,h10⟩) (fun i hi=>ih i hi (fun j hj hl=>he j (by have:=h6 i hi;omega) hl))
theorem Rv.deeper {d k:Nat} {v:Vl} {c:Nat} (h:Rv s ns d k v c): ∀d',d<=d'->Rv s ns d' k v c:=by
 induction h with
 |leaf h1 h2 h3=>
  intro d' hd;obtain⟨e,rfl⟩: ∃e,d'=e+1:=⟨d'-1,by omega⟩;exact .leaf h1 h2 h3
 |arr h1 h2 h3 h4 h5 _ ih=>
  intro d' hd;obtain⟨e,rfl⟩: ∃e,d'=e+1:=⟨d'-1,by omega⟩;exact .arr h1 h2 h3 h4 h5 (fun i hi=>ih i hi e (by omega))
 |obj h1 h2 h3 h4 h5 h6 h7 h8 _ ih=>
  intro d' hd;obtain⟨e,rfl⟩: ∃e,d'=e+1:=⟨d'-1,by omega⟩;exact .obj h1 h2 h3 h4 h5 h6 h7 h8 (fun i hi=>ih i hi e (by omega))
end
structure RW(s:ByteArray)(d:Nat)(key:Nat×Nat)(l:List Tok)(ns:List JN)(l':List Tok)(ns':List JN):Prop where
 sfx:l'<:+l
 ext:Ext l ns l' ns'
 ky: ∃y,ns'[ns.length]?=some y/\y.ka=key.1/\y.kb=key.2
 val: ∃v c,Rv s ns' d ns.length v c/\c+ns.length=ns'.length
 all: ∀i,ns.length<=i->i<ns'.length-> ∃v c,Rv s ns' d i v c/\c+ns.length<=ns'.length
def ValR(s:ByteArray)(d:Nat)(v:List Tok->Nat×Nat->List JN->JRes):Prop:= ∀l key ns l' ns',(∀t∈l,TokOk s t)->v l key ns= .inr (l',ns')->RW s d key l ns l' ns'
structure LS(s:ByteArray)(d:Nat)(ob:Bool)(k:Nat)(had:List Bs)(ns:List JN):Prop where
 at_: ∃x,ns[k]?=some x/\x.kd=(if ob=true then 6 else 5)/\ ∃(vs:List Vl) (cs:List Nat),vs.length=x.kids.length/\cs.length=x.kids.length/\(∀i,i<x.kids.length->k<x.kids.getD i 0)/\(∀i,i<x.kids.length->Rv s ns d (x.kids.getD i 0) (vs.getD i zV) (cs.getD i 0))/\cs.sum+k+1=ns.length/\
  (ob=true->had.length=x.kids.length/\had.Nodup/\ ∀i,i<x.kids.length-> ∃y,ns[x.kids.getD i 0]?=some y/\zC8 s y.ka y.kb/\had.getD i []=za3 s y.ka y.kb)
 all: ∀i,k<i->i<ns.length-> ∃v c,Rv s ns d i v c/\c+k+1<=ns.length
structure RL(s:ByteArray)(d k:Nat)(key:Nat×Nat)(l:List Tok)(l':List Tok)(ns':List JN):Prop where
 sfx:l'<:+l
 ky: ∃y,ns'[k]?=some y/\y.ka=key.1/\y.kb=key.2
 val: ∃v c,Rv s ns' (d+1) k v c/\c+k=ns'.length
 all: ∀i,k<i->i<ns'.length-> ∃v c,Rv s ns' d i v c/\c+k<=ns'.length
section
variable {s:ByteArray} {d:Nat} {v:List Tok->Nat×Nat->List JN->JRes} {ob:Bool} {z:Nat}
theorem addN_own {ns:List JN} {k kid:Nat} {pc:Nat×Nat} {x:JN} (h:ns[k]?=some x):(addN ns k kid pc)[k]?=some {x with kids:=x.kids++[kid],pcs:=x.pcs++[pc]}:=by
 unfold addN;rw[List.getElem?_modify,h];simp
theorem zk2 {α:Type} (l:List α)(x:α) {i:Nat} (z:α)(h:i<l.length):(l++[x]).getD i z=l.getD i z:=by
 rw[List.getD_eq_getElem?_getD,List.getD_eq_getElem?_getD,List.getElem?_append_left h]
theorem zh4 {α:Type} (l:List α)(x z:α):(l++[x]).getD l.length z=x:=by
 rw[List.getD_eq_getElem?_getD,List.getElem?_append_right (Nat.le_refl _)];simp
theorem zP5 {ns ns':List JN} {k:Nat} (_hl:ns'.length=ns.length)(h: ∀i,i≠k->ns'[i]?=ns[i]?) {d j:Nat} {w:Vl} {c:Nat} (hj:k<j)(hr:Rv s ns d j w c):Rv s ns' d j w c:=hr.mono (fun i hi _=>h i (by omega))
theorem LS.add {k:Nat} {had:List Bs} {ns ns1:List JN} {key:Nat×Nat} {l l1:List Tok} {x1:Bs} {pc:Nat×Nat} (h:LS s d ob k had ns)(hw:RW s d key l ns l1 ns1)(hk:k<ns.length)(hkey:ob=true->zC8 s key.1 key.2/\x1=za3 s key.1 key.2/\x1∉had)(had':List Bs)(hh:ob=true->had'=had++[x1]):LS s d ob k had' (addN ns1 k ns.length pc):=by
 obtain⟨x,e1,e2,vs,cs,e3,e4,e5,e6,e7,e8⟩:=h.at_;obtain⟨w,c,r1,r2⟩:=hw.val;obtain⟨y,y1,y2,y3⟩:=hw.ky;have hx:=hw.ext;have hl1:=hx.ln;have e1':ns1[k]?=some x:=by rw[hx.at_ k hk];exact e1
 have hlen:(addN ns1 k ns.length pc).length=ns1.length:=zi1 _ _ _ _;have hoth: ∀i,i≠k->(addN ns1 k ns.length pc)[i]?=ns1[i]?:=fun i hi=>zt7 hi
 have up: ∀ {j:Nat} {u:Vl} {n:Nat},k<j->Rv s ns d j u n->Rv s (addN ns1 k ns.length pc) d j u n:=fun hj hr=>zP5 hlen hoth hj (hr.mono (fun i _ hi=>hx.at_ i hi))
 have up1: ∀ {j:Nat} {u:Vl} {n:Nat},k<j->Rv s ns1 d j u n->Rv s (addN ns1 k ns.length pc) d j u n:=fun hj hr=>zP5 hlen hoth hj hr
 have hn:(x.kids++[ns.length]).length=x.kids.length+1:=by simp
 refine⟨⟨_,addN_own e1',e2,vs++[w],cs++[c],by simp[e3],by simp[e4],fun i hi=> ?_,fun i hi=> ?_,?_,fun ho=> ?_⟩,fun i hi hi2=> ?_⟩
 ·simp only[hn]at hi ⊢;by_cases h1:i<x.kids.length
  ·rw[zk2 _ _ _ h1];exact e5 i h1
  ·obtain rfl:i=x.kids.length:=by omega
   rw[zh4];exact hk
 ·simp only[hn]at hi ⊢;by_cases h1:i<x.kids.length
  ·rw[zk2 _ _ _ h1,zk2 _ _ _ (by rw[e3];exact h1),zk2 _ _ _ (by rw[e4];exact h1)];exact up (e5 i h1) (e6 i h1)
  ·obtain rfl:i=x.kids.length:=by omega
   rw[zh4,show(vs++[w]).getD x.kids.length zV=w by rw[←e3,zh4],show(cs++[c]).getD x.kids.length 0=c by rw[←e4,zh4]];exact up1 hk r1
 ·rw[List.sum_append,hlen];simp only[List.sum_cons,List.sum_nil];omega
 ·obtain ⟨a1,a2,a3⟩:=e8 ho;obtain⟨b1,b2,b3⟩:=hkey ho;rw[hh ho];refine⟨by simp[a1],?_,fun i hi=> ?_⟩
  ·rw[List.nodup_append];exact⟨a2,by simp,fun a ha b hb=>by
    rw[List.mem_singleton]at hb;subst hb;exact fun e=>b3 (e▸ha)⟩
  ·simp only[hn]at hi ⊢;by_cases h1:i<x.kids.length
   ·rw[zk2 _ _ _ h1,zk2 _ _ _ (by rw[a1];exact h1)];obtain⟨y',c1,c2⟩:=a3 i h1;have hlt:=(List.getElem?_eq_some_iff.1 c1).1;exact⟨y',by rw[hoth _ (by have:=e5 i h1;omega),hx.at_ _ hlt];exact c1,c2⟩
   ·obtain rfl:i=x.kids.length:=by omega
    rw[zh4,show(had++[x1]).getD x.kids.length []=x1 by rw[←a1,zh4]];exact⟨y,by rw[hoth _ (by omega)];exact y1,by rw[y2,y3];exact b1,by rw[y2,y3];exact b2⟩
 ·rw[hlen]at hi2 ⊢;by_cases h1:i<ns.length
  ·obtain ⟨u,n,h2,h3⟩:=h.all i hi h1;exact⟨u,n,up hi h2,by omega⟩
  ·obtain ⟨u,n,h2,h3⟩:=hw.all i (by omega) hi2;exact⟨u,n,up1 hi h2,by omega⟩
theorem LS.close {k b:Nat} {had:List Bs} {ns:List JN} {key:Nat×Nat} {l l':List Tok} (h:LS s d ob k had ns)(hs:l'<:+l)(hk: ∃y,ns[k]?=some y/\y.ka=key.1/\y.kb=key.2):RL s d k key l l' (closeN ns k b):=by
 obtain⟨x,e1,e2,vs,cs,e3,e4,e5,e6,e7,e8⟩:=h.at_;obtain⟨y,y1,y2,y3⟩:=hk;have hlen:(closeN ns k b).length=ns.length:=zh5 _ _ _;have hoth: ∀i,i≠k->(closeN ns k b)[i]?=ns[i]?:=fun i hi=>zj6 hi
 have up: ∀ {j:Nat} {u:Vl} {n:Nat},k<j->Rv s ns d j u n->Rv s (closeN ns k b) d j u n:=fun hj hr=>zP5 hlen hoth hj hr
 have e1':=zk0 (b:=b) e1;refine⟨hs,?_,?_,fun i hi hi2=> ?_⟩
 ·rw[y1]at e1;cases e1;exact⟨_,e1',y2,y3⟩
 ·cases ob with
  |false=>exact⟨_,_,.arr e1' (by simpa using e2) e3 e4 e5 (fun i hi=>up (e5 i hi) (e6 i hi)),by rw[hlen];omega⟩
  |true=>
   obtain⟨a1,a2,a3⟩:=e8 rfl;exact⟨_,_,.obj e1' (by simpa using e2) a1 e3 e4 e5 a2 (fun i hi=>by
    obtain⟨y',c1,c2⟩:=a3 i hi;exact⟨y',by rw[hoth _ (fun e=>by have h1:k<x.kids.getD i 0:=e5 i hi;have h2:x.kids.getD i 0=k:=e;omega)];exact c1,c2⟩) (fun i hi=>up (e5 i hi) (e6 i hi)),by rw[hlen];omega⟩
 ·rw[hlen]at hi2 ⊢;obtain⟨u,n,h2,h3⟩:=h.all i hi hi2;exact⟨u,n,up hi h2,by omega⟩
theorem tok_str {s:ByteArray} {t:Tok} (h:TokOk s t)(h8:t.1=8):zC8 s t.2.1 t.2.2:=⟨h.1,h.2.1,by rw[←h8];exact h.2.2⟩
theorem loopM_rv(hv:ValR s d v) {k:Nat} {key:Nat×Nat}: ∀(f:Nat) {had:List Bs} {fr:Nat} {l l':List Tok} {ns ns':List JN},(∀t∈l,TokOk s t)->LS s d ob k had ns->k<ns.length->(∃y,ns[k]?=some y/\y.ka=key.1/\y.kb=key.2)->zk6 v ob z (za3 s) k f had fr l ns= .inr (l',ns')->RL s d k key l l' ns'
 |0,_,_,_,_,_,_,_,_,_,_,h=>by cases h
 |f+1,had,fr,l,l',ns,ns',ht,hS,hk,hy,h=>by
  unfold zk6 at h;cases h1:kidM v ob z (za3 s) had l ns with
  |inl e=>rw[h1]at h;cases h
  |inr p=>
   obtain⟨had',l1,ns1⟩:=p;rw[h1]at h;simp only at h;have kid: ∃(key':Nat×Nat) (lk:List Tok) (x1:Bs),RW s d key' lk ns l1 ns1/\lk<:+l/\(ob=true->zC8 s key'.1 key'.2/\x1=za3 s key'.1 key'.2/\x1∉had)/\(ob=true->had'=had++[x1]):=by
    unfold kidM at h1;cases ob with
    |false=>
     rw[if_neg (by simp)]at h1;cases hr:v l (0,0) ns with
     |inl e=>rw[hr]at h1;cases h1
     |inr p=>
      rw[hr]at h1;cases h1;exact⟨(0,0),l,[],hv _ _ _ _ _ ht hr,List.suffix_refl _,(fun e=>by cases e),(fun e=>by cases e)⟩
    |true=>
     rw[if_pos rfl]at h1;cases h2:ze4 z 8 8 l with
     |inl e=>rw[h2]at h1;cases h1
     |inr p=>
      obtain⟨t,r⟩:=p;obtain⟨e2,e3⟩:=zh1 h2;rw[h2]at h1;simp only at h1;by_cases hm:za3 s t.2.1 t.2.2∈had
      ·rw[if_pos hm]at h1;cases h1
      ·rw[if_neg hm]at h1;cases h3:ze4 z 7 7 r with
       |inl e=>rw[h3]at h1;cases h1
       |inr p=>
        obtain⟨t2,r2⟩:=p;obtain⟨e4,_⟩:=zh1 h3;rw[h3]at h1;simp only at h1;cases hr:v r2 (t.2.1,t.2.2) ns with
        |inl e=>rw[hr]at h1;cases h1
        |inr p=>
         rw[hr]at h1;cases h1;subst e2;subst e4;exact⟨(t.2.1,t.2.2),r2,za3 s t.2.1 t.2.2,hv _ _ _ _ _ (fun u hu=>ht u (by simp[hu])) hr,⟨[t,t2],rfl⟩,fun _=>⟨tok_str (ht t (by simp)) (e3.elim id id),rfl,hm⟩,fun _=>rfl⟩
   obtain⟨key',lk,x1,hw,hsx,hky,hhd⟩:=kid;have hS1: ∀pc,LS s d ob k had' (addN ns1 k ns.length pc):=fun pc=>hS.add hw hk hky had' hhd
   have hl1:=hw.ext.ln;have hy1: ∀pc,∃y,(addN ns1 k ns.length pc)[k]?=some y/\y.ka=key.1/\y.kb=key.2:=fun pc=>by
    obtain⟨y,y1,y2,y3⟩:=hy;exact⟨_,addN_own (by rw[hw.ext.at_ k hk];exact y1),y2,y3⟩
   cases h2:ze4 z 6 (ze7 ob) l1 with
   |inl e=>rw[h2]at h;cases h
   |inr p=>
    obtain⟨t,r⟩:=p;obtain⟨e2,_⟩:=zh1 h2;rw[h2]at h;simp only at h;have hrs:r<:+l:=(show r<:+l1 from e2▸List.suffix_cons t r).trans (hw.sfx.trans hsx);by_cases he:t.1=ze7 ob
    ·rw[if_pos he]at h;cases h;exact(hS1 _).close hrs (hy1 _)
    ·rw[if_neg he]at h;have hy:=loopM_rv hv f (fun u hu=>ht u (hrs.subset hu)) (hS1 _) (by rw[zi1];omega) (hy1 _) h;exact⟨hy.sfx.trans hrs,hy.ky,hy.val,hy.all⟩
theorem listM_rv(hv:ValR s d v) {k:Nat} {key:Nat×Nat} {l l':List Tok} {ns ns':List JN} (ht: ∀t∈l,TokOk s t)(hS:LS s d ob k [] ns)(hk:k<ns.length)(hy: ∃y,ns[k]?=some y/\y.ka=key.1/\y.kb=key.2)(h:zh8 v ob z (za3 s) k l ns= .inr (l',ns')):RL s d k key l l' ns':=by
 unfold zh8 at h;split at h
 ·cases h;exact hS.close (List.tail_suffix l) hy
 ·exact loopM_rv hv _ ht hS hk hy h
end
theorem zE(s:ByteArray)(z:Nat): ∀d,ValR s d (za4 z (za3 s) d)
 |d,[],key,ns,l',ns',_,h=>by unfold za4 at h;cases h
 |0,t::r,key,ns,l',ns',_,h=>by
  unfold za4 at h;split at h<;>cases h
 |d+1,t::r,key,ns,l',ns',ht,h=>by
  have hx:=zg0 z (za3 s) (d+1) _ _ _ _ _ h;have hk:ns.length<(ns++[ze9 t key]).length:=by simp
  have hat:(ns++[ze9 t key])[ns.length]?=some (ze9 t key):=by
   rw[List.getElem?_append_right (Nat.le_refl _)];simp
  have start: ∀ob,zb8 t.1=(if ob=true then 6 else 5)->LS s d ob ns.length [] (ns++[ze9 t key]):=fun ob ho=>
   ⟨⟨_,hat,ho,[],[],rfl,rfl,fun i hi=>absurd hi (Nat.not_lt_zero _),fun i hi=>absurd hi (Nat.not_lt_zero _),by simp,fun _=>⟨rfl,List.nodup_nil,fun i hi=>absurd hi (Nat.not_lt_zero _)⟩⟩,fun i hi hi2=>by
     rw[List.length_append]at hi2;simp only[List.length_cons,List.length_nil]at hi2;omega⟩
  have hr: ∀u∈r,TokOk s u:=fun u hu=>ht u (List.mem_cons_of_mem _ hu)
  have fin:RL s d ns.length key r l' ns'->RW s (d+1) key (t::r) ns l' ns':=fun hl=>
   ⟨hl.sfx.trans (List.suffix_cons t r),hx,hl.ky,hl.val,fun i hi hi2=>by
    by_cases h1:i=ns.length
    ·obtain ⟨u,n,h2,h3⟩:=hl.val;exact⟨u,n,h1▸h2,by omega⟩
    ·obtain ⟨u,n,h2,h3⟩:=hl.all i (by omega) hi2;exact⟨u,n,h2.deeper _ (Nat.le_succ _),h3⟩⟩
  unfold za4 at h;split at h
  ·cases h
  rename_i h0;split at h
  ·cases h
  split at h
  ·rename_i h5;exact fin (listM_rv (zE s z d) hr (start false (by simpa using h5)) hk ⟨_,hat,rfl,rfl⟩ h)
  ·split at h
   ·rename_i h6;exact fin (listM_rv (zE s z d) hr (start true (by simpa using h6)) hk ⟨_,hat,rfl,rfl⟩ h)
   ·rename_i h5 h6;cases h;have hkd:zb8 t.1=1\/zb8 t.1=2\/zb8 t.1=3\/zb8 t.1=4:=by
     have:zb8 t.1<=6:=by
      unfold zb8
      repeat' split
      all_goals omega
     omega
    have hT:=ht t List.mem_cons_self;have hv:Rv s (ns++[ze9 t key]) (d+1) ns.length (leafV s (ze9 t key)) 1:= .leaf hat ⟨hT.1,hT.2.1,t.1,hT.2.2,rfl,hkd⟩ rfl;refine⟨List.suffix_cons t r,hx,⟨_,hat,rfl,rfl⟩,⟨_,_,hv,by simp;omega⟩,fun i hi hi2=> ?_⟩;rw[List.length_append]at hi2;simp only[List.length_cons,List.length_nil]at hi2;obtain rfl:i=ns.length:=by omega
    exact⟨_,_,hv,by simp;omega⟩
theorem zA7 {s:ByteArray} {ns:List JN} (h:zc2 s= .inr ns):(∃v,Rv s ns 32 0 v ns.length)/\ ∀i,i<ns.length-> ∃v c,Rv s ns 32 i v c/\c<=ns.length:=by
 unfold zc2 at h;split at h
 ·cases h
 ·rename_i h0;cases hv:za4 s.size (za3 s) 32 (nbl (zd0 s).1) (0,0) [] with
  |inl e=>rw[hv]at h;cases h
  |inr p=>
   obtain⟨l',ns'⟩:=p;rw[hv]at h;simp only at h;split at h
   ·cases h;have hw:=zE s s.size 32 _ _ _ _ _ (fun t ht=>(zr0 (List.mem_filter.1 ht).1)) hv;refine⟨?_,fun i hi=> ?_⟩
    ·obtain ⟨v,c,h1,h2⟩:=hw.val;simp only[List.length_nil,Nat.add_zero]at h1 h2;exact⟨v,h2▸h1⟩
    ·obtain ⟨v,c,h1,h2⟩:=hw.all i (Nat.zero_le _) hi;exact⟨v,c,h1,by simpa using h2⟩
   ·cases h
theorem Rv.one {s:ByteArray} {ns:List JN} {d k:Nat} {v:Vl} {c:Nat} (h:Rv s ns d k v c): ∀ {d':Nat} {v':Vl} {c':Nat},Rv s ns d' k v' c'->v=v'/\c=c':=by
 have ext: ∀ {α:Type} (z:α) (a b:List α),a.length=b.length->(∀i,i<a.length->a.getD i z=b.getD i z)->a=b:=fun z a b hl h=>by
  apply List.ext_getElem hl;intro i h1 h2;have:=h i h1;rw[List.getD_eq_getElem?_getD,List.getD_eq_getElem?_getD,List.getElem?_eq_getElem h1,List.getElem?_eq_getElem h2]at this;exact this
 induction h with
 | @leaf d k x h1 h2 h3=>
   intro d' v' c' h;have hkd:=h2.2.2;cases h with
   |leaf g1 g2 g3=>
    rw[h1]at g1;cases g1;exact⟨rfl,rfl⟩
   |arr g1 g2=>
    rw[h1]at g1;cases g1;obtain⟨_,_,_,h⟩:=hkd;omega
   |obj g1 g2=>
    rw[h1]at g1;cases g1;obtain⟨_,_,_,h⟩:=hkd;omega
 | @arr d k x vs cs h1 h2 h3 h4 h5 _ ih=>
   intro d' v' c' h;cases h with
   |leaf g1 g2 g3=>
    rw[h1]at g1;cases g1;obtain⟨_,_,_,_,_,h⟩:=g2;omega
   |arr g1 g2 g3 g4 g5 g6=>
    rw[h1]at g1;cases g1;have e1:=ext zV _ _ (h3.trans g3.symm) (fun i hi=>(ih i (by omega) (g6 i (by omega))).1);have e2:=ext 0 _ _ (h4.trans g4.symm) (fun i hi=>(ih i (by omega) (g6 i (by omega))).2);rw[e1,e2];exact⟨rfl,rfl⟩
   |obj g1 g2=>rw[h1]at g1;cases g1;omega
 | @obj d k x ks vs cs h1 h2 h3 h4 h5 h6 h7 h8 _ ih=>
   intro d' v' c' h;cases h with
   |leaf g1 g2 g3=>
    rw[h1]at g1;cases g1;obtain⟨_,_,_,_,_,h⟩:=g2;omega
   |arr g1 g2=>rw[h1]at g1;cases g1;omega
   |obj g1 g2 g3 g4 g5 g6 g7 g8 g9=>
    rw[h1]at g1;cases g1;have e1:=ext zV _ _ (h4.trans g4.symm) (fun i hi=>(ih i (by omega) (g9 i (by omega))).1);have e2:=ext 0 _ _ (h5.trans g5.symm) (fun i hi=>(ih i (by omega) (g9 i (by omega))).2);have e3:=ext [] _ _ (h3.trans g3.symm) (fun i hi=>by
     obtain⟨y,a1,a2,a3⟩:=h8 i (by omega);obtain⟨y',b1,b2,b3⟩:=g8 i (by omega);rw[a1]at b1;cases b1;rw[a3,b3])
    rw[e1,e2,e3];exact⟨rfl,rfl⟩
structure Fine(x:Vt)(w:World):Prop where
 ok:x.Ok w
 lim:x.m.All Lim
 sz:x.m.size<=1000000
theorem Fine.grow {x:Vt} {w w':World} (h:Fine x w)(hb:Below w.heap.size w w'):Fine x w':=⟨h.ok.grow hb,h.lim,h.sz⟩
def Rem1(v:Vl):Prop:=Good v/\v.size<=1000000
theorem Rem1.items {k:Int} {t:Bs} {ks:List Bs} {is:List Vl} (h:Rem1 (.mk k t ks is)): ∀x∈is,Rem1 x:=fun x hx=>by
 refine⟨h.1.items x hx,?_⟩;have h1:=h.2;simp only[Vl.size]at h1;have:=Vl.sizes_le x hx;omega
def ordR(v:Vl):List Nat:=List.range v.is.length
def zeroL:Vl:= .mk 0 [] [] []
def zeroT:Vt:= .mk 0 [] ⟨none,0,[]⟩ none 0 []
theorem zg5 {B:Nat} {w W:World} (h:Below B w W) {g:Nat} (hg:B<=g)(a b c d:Value):Below B w ((((W.setCell ⟨g,0,none⟩ a).setCell ⟨g,1,none⟩ b).setCell ⟨g,2,none⟩ c).setCell ⟨g,3,none⟩ d):=
 zd9 (zd9 (zd9 (zd9 h hg 0 a) hg 1 b) hg 2 c) hg 3 d
theorem zn0(n:Int)(h0:-9223372036854775808<=n)(h1:n<=9223372036854775807):(Lib.decDigits n.natAbs).length<=1000/\(Lib.itoa n).length<=1000:=by
 have h:=Lib.itoa_length_le n (by omega) (by omega);have h2:(Lib.decDigits n.natAbs).length<=(Lib.itoa n).length:=by
  unfold Lib.itoa;split
  ·simp
  ·rename_i hn;rw[show n.natAbs=n.toNat by omega];exact Nat.le_refl _
 omega
theorem of_intU(n:Int)(h0:-9223372036854775808<=n)(h1:n<=9223372036854775807)(w:World)(hI:Itoas n w):
 Calls Tryz.prog 67 #[.int .i64 n] w (OfPost (ofM n) w):=by
 have h:=zn0 n h0 h1;exact of_any n _ w hI h.2 (splitM_itoa n) (by simp only[List.length_nil];omega)
theorem ofM_bdU(n:Int)(h0:-9223372036854775808<=n)(h1:n<=9223372036854775807):(ofM n).digits.length<=1000/\-9223372036854775808<=(ofM n).exp/\(ofM n).exp<=9223372036854775807:=
 numM_exp _ _ _ _ _ rfl (by simp) (by have:=(zn0 n h0 h1).1;simp only[List.length_nil];omega)
def zl8(k:Int)(t:Bs):Vt:= .mk k t ⟨none,0,[]⟩ none 0 []
theorem zP7(k:Int)(t:Bs):(zl8 k t).m= .mk k t [] []:=by unfold zl8;rw[Vt.m_mk];rfl
theorem zo5(k:Int)(t:Bs):(zl8 k t).v= .agg #[.int .i64 k,.string (st t),.slice none 0 0,.slice none 0 0]:=rfl
def zm4(k:Int)(t:Bs)(w:World)(e:Ending)(w':World):Prop:=e= .returned (zl8 k t).v/\Below w.heap.size w w'
theorem zz7(t:Bs)(w:World):Calls Tryz.prog 29 #[.string (st t)] w (zm4 4 t w):=by
 have hb0:=za0 w (.cells #[.int .i64 4,.string (st t),.slice none 0 0,.slice none 0 0] 26);obtain⟨r0,r1,r2,r3⟩:=za1 (Whole.made w 26 #[.int .i64 4,.string (st t),.slice none 0 0,.slice none 0 0]);have HV:=hq (show zm4 4 t w (.returned (zl8 4 t).v) (w.alloc (.cells #[.int .i64 4,.string (st t),.slice none 0 0,.slice none 0 0] 26)) from⟨rfl,hb0⟩);generalize zm4 4 t w=PP at *;clear hb0;go_enter Tryz.func29,Tryz.ntmps29
 go_wp2_with fail
 refine bodyPost_ret (v:=(zl8 4 t).v) ?_ rfl HV.o;simp[results,Tryz.results29,go_sem,r0,r1,r2,r3,zo5]
theorem vNum_any(n:Int)(w:World)(hI:Its w)(h0:-9223372036854775808<=n)(h1:n<=9223372036854775807):Calls Tryz.prog 30 #[.int .i64 n] w (zm4 3 (zk9 (ofM n)) w):=by
 have HOF:=hq (fun V (hV:Below w.heap.size w V)=>of_intU n h0 h1 V ((hI.grow hV) n h0 h1));have hbd:=ofM_bdU n h0 h1;have HP:Hq (∀W',Below w.heap.size w W'->zm4 3 (zk9 (ofM n)) w (.returned (zl8 3 (zk9 (ofM n))).v) W'):=hq (fun W' h=>⟨rfl,h⟩);unfold OfPost at HOF;generalize zm4 3 (zk9 (ofM n)) w=PP at *;generalize ofM n=d at *;obtain⟨neg,D,E⟩:=d;simp only[Dec.val]at *;have HTX:=hq (fun V (hV:Below w.heap.size w V)=>zD1 neg D E V (by omega) (by omega) (fun _=>(hI.grow hV) E (by omega) (by omega)) (zj7 E (by omega) (by omega)));generalize zk9 ⟨neg,D,E⟩=T at *;have hb0:=za0 w (.cells #[.int .i64 0,.string ⟨#[]⟩,.slice none 0 0,.slice none 0 0] 26);have HW0:=hq (Whole.made w 26 #[.int .i64 0,.string ⟨#[]⟩,.slice none 0 0,.slice none 0 0]);have HB0:=hq hb0;clear hb0 hI;go_enter Tryz.func30,Tryz.ntmps30
 go_upto_region 1 with fail
 generalize (w.alloc (.cells #[.int .i64 0,.string ⟨#[]⟩,.slice none 0 0,.slice none 0 0] 26))=V0 at *;go_wp2_with fail
 refine(HOF.o V0 HB0.o).mono ?_;rintro e w2 ⟨rfl,hb2⟩;have HB2:=hq (za HB0.o hb2);have HW2:=hq (HW0.o.grow hb2);clear hb2 HOF;go_wp2_with fail
 refine(HTX.o w2 HB2.o).mono ?_;rintro e w3 ⟨rfl,hb3⟩;have HW3:=hq (HW2.o.grow hb3);obtain⟨r0,r1,r2,r3⟩:=za1 HW3.o;have f0:=HW3.o.free 0;have f1:=HW3.o.free 1;have f2:=HW3.o.free 2;have f3:=HW3.o.free 3;have HV:=hq (fun a b c d=>HP.o _ (zg5 (za HB2.o hb3) (Nat.le_refl _) a b c d));clear hb3 HTX HP;go_wp2_with fail
 refine bodyPost_ret (v:=(zl8 3 T).v) ?_ rfl (HV.o _ _ _ _);simp[results,Tryz.results30,go_sem,r0,r1,r2,r3,zo5]
def NodePost(v:Value)(w:World)(e:Ending)(w':World):Prop:=e= .returned v/\Below w.heap.size w w'
def ixOf:List Bs->Bs->Option Nat
 | [],_=>none
 |x::l,k=>if x=k then some 0 else(ixOf l k).map (· +1)
def ixI(l:List Bs)(k:Bs):Int:=match ixOf l k with
 |some i=>(i:Int)
 |none=>-1
def getM(v:Vl)(key:Bs):Option Vl:=if zP1 v=true/\v.k=6 then(match ixOf v.ks key with
 |some i=>v.is[i]?
 |none=>none) else none
def GetPost(r:Option Vl)(W:World)(e:Ending)(W':World):Prop:= ∃y:Vt,e= .returned (.tuple #[y.v,.bool r.isSome])/\y.Own 26 9 W.heap.size (fun _=>True) W'/\y.m=r.getD zeroL/\Below W.heap.size W W'
end Go.Proofs.YtkafjblfjdpdaaaGreatDoor
