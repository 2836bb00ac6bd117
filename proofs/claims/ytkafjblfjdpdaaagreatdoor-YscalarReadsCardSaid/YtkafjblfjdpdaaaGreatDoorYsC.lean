/-
  PLAIN MATHEMATICS: what is printed is read.
  PLAIN MATHEMATICS: a text made safe for a line: no 127, no # behind a blank; a string so written is read.
  PLAIN MATHEMATICS: a value's text with any way to write strings; made safe, it is read as that value.
  PLAIN MATHEMATICS: a line of YAML, taken apart; strings in single quotes.
  PLAIN MATHEMATICS: strings in single quotes; what stands in single quotes is read, wherever it stands.
  PLAIN MATHEMATICS: what stands in one line of YAML: bare texts, what they are, what is read, what is written; what is written is read.
-/
import Derived.Test.YtkafjblfjdpdaaaGreatDoorRdV
import Derived.Test.YtkafjblfjdpdaaaGreatDoorPrU
namespace Go.Proofs.YtkafjblfjdpdaaaGreatDoor
open Go.RowKit
structure ValT(T:ByteArray)(d a:Nat)(l:Bs)(v:Vl)(toks:List Tok):Prop where
 nt: ∀m,NT T (a+l.length) m->NT T a (toks++m)
 hd: ∃t r,toks=t::r/\zb8 t.1≠0
 go: ∀key ns r,ns.length+v.size<=4096-> ∃ns',za4 T.size (za3 T) d (toks++r) key ns= .inr (r,ns')/\Rv T ns' d ns.length v v.size/\ns'.length=ns.length+v.size/\ ∃y,ns'[ns.length]?=some y/\y.ka=key.1/\y.kb=key.2
structure KV(T:ByteArray)(d:Nat)(ob:Bool)(q:Bs×Vl)(ns ns':List JN):Prop where
 rv:Rv T ns' d ns.length q.2 q.2.size
 ln:ns'.length=ns.length+q.2.size
 ky:ob=true-> ∃y,ns'[ns.length]?=some y/\zC8 T y.ka y.kb/\q.1=za3 T y.ka y.kb
 at_: ∀i,i<ns.length->ns'[i]?=ns[i]?
structure KidT(T:ByteArray)(d:Nat)(ob:Bool)(a:Nat)(l:Bs)(q:Bs×Vl)(toks:List Tok):Prop where
 nt: ∀m,NT T (a+l.length) m->NT T a (toks++m)
 hd: ∃t r,toks=t::r/\t.1≠ze7 ob
 go: ∀had ns r,(ob=true->q.1∉had)->ns.length+q.2.size<=4096-> ∃ns',kidM (za4 T.size (za3 T) d) ob T.size (za3 T) had (toks++r) ns= .inr (if ob=true then had++[q.1] else had,r,ns')/\KV T d ob q ns ns'
structure LV(T:ByteArray)(d:Nat)(ob:Bool)(k:Nat)(x0:JN)(its:List (Bs×Vl))(ns ns':List JN):Prop where
 own: ∃x idx,ns'[k]?=some x/\x.kd=x0.kd/\x.ka=x0.ka/\x.kb=x0.kb/\x.kids=x0.kids++idx/\idx.length=its.length/\ ∀i (hi:i<its.length),k<idx.getD i 0/\Rv T ns' d (idx.getD i 0) its[i].2 its[i].2.size/\(ob=true-> ∃y,ns'[idx.getD i 0]?=some y/\zC8 T y.ka y.kb/\its[i].1=za3 T y.ka y.kb)
 ln:ns'.length=ns.length+Vl.sizes (its.map (·.2))
 at_: ∀i,i≠k->i<ns.length->ns'[i]?=ns[i]?
structure LoopT(T:ByteArray)(d:Nat)(ob:Bool)(a:Nat)(l:Bs)(its:List (Bs×Vl))(toks:List Tok):Prop where
 nt: ∀m,NT T (a+l.length) m->NT T a (toks++m)
 hd: ∃t r,toks=t::r/\t.1≠ze7 ob
 ln:its.length<=toks.length
 go: ∀k f had fr ns R x0,its.length<=f->ns[k]?=some x0->(ob=true-> ∀q∈its,q.1∉had)->(ob=true->(its.map (·.1)).Nodup)->ns.length+Vl.sizes (its.map (·.2))<=4096->
  ∃ns',zk6 (za4 T.size (za3 T) d) ob T.size (za3 T) k f had fr (toks++R) ns= .inr (R,ns')/\LV T d ob k x0 its ns ns'
section
variable {T:ByteArray} {d:Nat} {ob:Bool} {kt:Bs×Vl->Bs} {ln ln0:Bs}
end
theorem sizes_map: ∀l:List Vl,Vl.sizes l=(l.map Vl.size).sum
 | []=>rfl
 |v::l=>by simp only[Vl.sizes,List.map_cons,List.sum_cons,sizes_map l]
theorem zip_texts(g:Bs->Bs->Bs)(f:Vl->Bs): ∀(ks:List Bs) (is:List Vl),List.zipWith g ks (is.map f)=(ks.zip is).map fun q=>g q.1 (f q.2)
 | [],is=>by simp
 |k::ks,[]=>by simp
 |k::ks,x::is=>by
  simp only[List.map_cons,List.zipWith_cons_cons,List.zip_cons_cons,zip_texts g f ks is]
theorem qt_text {t:Bs}:(zg6 (st t)).1=qtB t:=rfl
def zn9:UInt8->Bs->Bs
 |_,[]=> []
 |p,c::r=>(if c=127 then [92,117,48,48,55,102] else if c=35/\p=32 then [92,117,48,48,50,51] else [c])++zn9 c r
def zC7:UInt8->Bs->UInt8
 |p,[]=>p
 |_,c::r=>zC7 c r
theorem safe_app: ∀(a b:Bs) (p:UInt8),zn9 p (a++b)=zn9 p a++zn9 (zC7 p a) b
 | [],_,_=>rfl
 |c::a,b,p=>by
  rw[List.cons_append,zn9,safe_app a b c,zn9,List.append_assoc];rfl
theorem safe_no: ∀ {a:Bs} (p:UInt8),(∀c∈a,c≠127/\c≠35)->zn9 p a=a
 | [],_,_=>rfl
 |c::a,p,h=>by
  have h1:=h c (by simp);rw[zn9,if_neg h1.1,if_neg (fun x=>h1.2 x.1),safe_no c (fun x hx=>h x (List.mem_cons_of_mem _ hx))];rfl
def Spells(P:Bs)(r:Nat):Prop:=P≠ []/\ ∀(t:ByteArray) (k:Nat),At t k P->byt t k≠34/\zf2 t k=some (r,P.length)
inductive SpellsAll:Bs->List Nat->Prop
 |nil:SpellsAll [] []
 |cons {P Q:Bs} {r:Nat} {rs:List Nat}:Spells P r->SpellsAll Q rs->SpellsAll (P++Q) (r::rs)
def qtS(t:Bs):Bs:=zn9 0 (qtB t)
structure Quo(Q:Bs->Bs):Prop where
 pos: ∀t,(valid (st t)).2=true->2<=(Q t).length
 one: ∀(T:ByteArray) (a:Nat) (t:Bs),(valid (st t)).2=true->At T a (Q t)->oneM T a=(8,a+(Q t).length,0)
 key: ∀(T:ByteArray) (a:Nat) (t:Bs),(valid (st t)).2=true->At T a (Q t)->a<=T.size->za3 T a (a+(Q t).length)=t
def memQ(Q:Bs->Bs)(k x:Bs):Bs:=Q k++(58::x)
mutual
def prQ(Q:Bs->Bs):Vl->Bs
 | .mk k t ks is=>
   if k=1 then [110,117,108,108] else if k=4 then Q t else if k=5 then zk7 false 0 0 91 93 (prQs Q is)
   else if k=6 then zk7 false 0 0 123 125 (List.zipWith (memQ Q) ks (prQs Q is)) else t
def prQs(Q:Bs->Bs):List Vl->List Bs
 | []=> []
 |x::r=>prQ Q x::prQs Q r
end
theorem decM_num {t:Bs} (h:decM t=true):t.all numD=true/\ ∃c r,t=c::r/\(c=45\/za7 c=true):=by
 unfold decM at h;simp only[Bool.and_eq_true,decide_eq_true_eq]at h;cases hs:zm6 t with
 |none=>
  have h1:=h.1;unfold zb3 at h1;rw[hs]at h1;exact absurd h1 (show¬((2:Int)=0) by decide)
 |some q=>exact split_num hs
def badC(s:ByteArray)(del:Bool)(p:Nat):Bool:=decide (bad s p)||decide (byt s p<32)||(del&&byt s p==127)
def clnM(s:ByteArray)(del:Bool):Nat->Nat->Nat
 |0,_=>s.size
 |f+1,p=>if p<s.size then(if badC s del p=true then p else clnM s del f (p+wd s p)) else s.size
def cleanM(s:ByteArray)(del:Bool):Nat:=clnM s del s.size 0
theorem clnM_end(s:ByteArray)(d:Bool)(f p:Nat)(h: ¬p<s.size):clnM s d f p=s.size:=by
 cases f with
 |zero=>rfl
 |succ f=>unfold clnM;rw[if_neg h]
theorem zQ8(s:ByteArray)(d:Bool)(f p:Nat)(h:p<s.size)(hb:badC s d p=true):clnM s d (f+1) p=p:=by unfold clnM;rw[if_pos h,if_pos hb]
theorem clnM_step(s:ByteArray)(d:Bool)(f p:Nat)(h:p<s.size)(hb:badC s d p=false):clnM s d (f+1) p=clnM s d f (p+wd s p):=by
 rw[clnM,if_pos h,if_neg (by rw[hb];exact Bool.false_ne_true)]
def blkGo(s:ByteArray):Nat->Nat->Nat
 |0,p=>p
 |f+1,p=>if p<s.size/\byt s p=32 then blkGo s f (p+1) else p
def blk(s:ByteArray)(p:Nat):Nat:=blkGo s (s.size-p) p
def sgn(s:ByteArray)(p c:Nat):Bool:=decide (p<s.size)&&(byt s p==c)&&(decide (p+1=s.size)||byt s (p+1)==32)
def cmt(s:ByteArray)(p:Nat):Bool:=decide (0<p)&&byt s p==35&&byt s (p-1)==32
def keyGo(s:ByteArray)(a:Nat):Nat->Nat->Nat
 |0,_=>a
 |f+1,q=>if q<s.size then(if cmt s q=true then a else if a<q/\sgn s q 58=true then q else keyGo s a f (q+1)) else a
def keyTo(s:ByteArray)(a q:Nat):Nat:=keyGo s a (s.size-q) q
def cmtGo(s:ByteArray):Nat->Nat->Nat
 |0,_=>s.size
 |f+1,q=>if q<s.size then(if cmt s q=true then q else cmtGo s f (q+1)) else s.size
def cmtTo(s:ByteArray)(q:Nat):Nat:=cmtGo s (s.size-q) q
def trm(s:ByteArray)(a:Nat):Nat->Nat
 |0=>0
 |t+1=>if a<t+1/\byt s t=32 then trm s a t else t+1
def zk5(s:ByteArray):Nat->Nat->Bs->Bs×Nat×Int
 |0,_,_=>([],s.size,2)
 |f+1,q,acc=>
  if q<s.size then
   (if byt s q=39 then(if q+1<s.size/\byt s (q+1)=39 then zk5 s f (q+2) (acc++[39]) else(acc,q+1,0))
    else if bad s q\/byt s q<32 then([],q,2)
    else zk5 s f (q+wd s q) (acc++zd2 s q))
  else([],s.size,2)
def sglM(s:ByteArray)(a:Int):Bs×Nat×Int:=
 if a<0\/(s.size:Int)<a then([],0,2) else if a.toNat=s.size\/byt s a.toNat≠39 then([],a.toNat,2) else zk5 s s.size (a.toNat+1) []
theorem zx9 {s:ByteArray} {f q:Nat} {acc:Bs} (h: ¬q<s.size):zk5 s f q acc=([],s.size,2):=by
 cases f with
 |zero=>rfl
 |succ f=>rw[zk5,if_neg h]
theorem zE8 {s:ByteArray} {f q:Nat} {acc:Bs} (h:q<s.size)(h1:byt s q=39)(h2:q+1<s.size)(h3:byt s (q+1)=39):zk5 s (f+1) q acc=zk5 s f (q+2) (acc++[39]):=by
 rw[zk5,if_pos h,if_pos h1,if_pos ⟨h2,h3⟩]
theorem zD4 {s:ByteArray} {f q:Nat} {acc:Bs} (h:q<s.size)(h1:byt s q=39)(h2: ¬(q+1<s.size/\byt s (q+1)=39)):zk5 s (f+1) q acc=(acc,q+1,0):=by
 rw[zk5,if_pos h,if_pos h1,if_neg h2]
theorem zs7 {s:ByteArray} {f q:Nat} {acc:Bs} (h:q<s.size)(h1:byt s q≠39)(h2:bad s q\/byt s q<32):zk5 s (f+1) q acc=([],q,2):=by
 rw[zk5,if_pos h,if_neg h1,if_pos h2]
theorem zu1 {s:ByteArray} {f q:Nat} {acc:Bs} (h:q<s.size)(h1:byt s q≠39)(h2: ¬(bad s q\/byt s q<32)):zk5 s (f+1) q acc=zk5 s f (q+wd s q) (acc++zd2 s q):=by
 rw[zk5,if_pos h,if_neg h1,if_neg h2]
theorem zO(s:ByteArray): ∀f q acc,q<=s.size->q<=(zk5 s f q acc).2.1/\(zk5 s f q acc).2.1<=s.size/\((zk5 s f q acc).2.2=0\/(zk5 s f q acc).2.2=2)/\((zk5 s f q acc).2.2=0->q<(zk5 s f q acc).2.1)
 |0,q,acc,h=>⟨h,Nat.le_refl _,.inr rfl,fun h=>by cases h⟩
 |f+1,q,acc,h=>by
  by_cases hq':q<s.size
  ·by_cases h39:byt s q=39
   ·by_cases h2:q+1<s.size/\byt s (q+1)=39
    ·rw[zE8 hq' h39 h2.1 h2.2];obtain⟨a1,a2,a3,a4⟩:=zO s f (q+2) (acc++[39]) (by omega);exact⟨by omega,a2,a3,fun h=>by have:=a4 h;omega⟩
    ·rw[zD4 hq' h39 h2];exact⟨by simp only;omega,by simp only;omega,.inl rfl,fun _=>by simp only;omega⟩
   ·by_cases hb:bad s q\/byt s q<32
    ·rw[zs7 hq' h39 hb];exact⟨Nat.le_refl _,h,.inr rfl,fun h=>by cases h⟩
    ·rw[zu1 hq' h39 hb];have hw:=zi4 s q;obtain⟨a1,a2,a3,a4⟩:=zO s f (q+wd s q) (acc++zd2 s q) (zp8 s q hq');exact⟨by omega,a2,a3,fun h=>by have:=a4 h;omega⟩
  ·rw[zx9 hq'];exact⟨h,Nat.le_refl _,.inr rfl,fun h=>by cases h⟩
def qtd(s:ByteArray)(p:Nat):Nat×Bool×Bool:=
 if p=s.size then(p,false,false)
 else if byt s p=34 then((zb7 s p).1,true,(zb7 s p).2.1==0)
 else if byt s p=39 then((sglM s p).2.1,true,(sglM s p).2.2==0)
 else(p,false,false)
def ykeyM(s:ByteArray)(p:Nat):Nat×Bool:=
 if (qtd s p).2.1=true then(if (qtd s p).2.2=true/\sgn s (qtd s p).1 58=true then((qtd s p).1,true) else(p,(qtd s p).2.2))
 else if byt s p=91\/byt s p=123 then(p,true)
 else(keyTo s p p,true)
def look(s:ByteArray)(p:Nat):Nat:=if (qtd s p).2.2=true then(qtd s p).1 else p
def restM(s:ByteArray)(p:Nat):(Nat×Nat)×Option Nat:=
 ((blk s p,trm s (blk s p) (cmtTo s (look s (blk s p)))),if cmtTo s (look s (blk s p))<s.size then some (cmtTo s (look s (blk s p))) else none)
def lineD(s:ByteArray)(p:Nat):Option (Nat×Option Nat×(Nat×Nat)×Option Nat):=
 if p=s.size then some (1,none,(p,p),none)
 else if byt s p=35 then some (2,none,(p,p),some p)
 else if sgn s p 45=true then some (3,none,restM s (p+1))
 else if (ykeyM s p).2=false then none
 else if p<(ykeyM s p).1 then some (4,some (ykeyM s p).1,restM s ((ykeyM s p).1+1))
 else some (5,none,restM s p)
def zB8(c:UInt8)(new:Bs)(l:Bs):Bs:=l.flatMap fun b=>if b=c then new else [b]
theorem subst1_none {c:UInt8} {new l:Bs} (h:l.count c=0):zB8 c new l=l:=by
 unfold zB8;have hn: ∀b∈l,b≠c:=fun b hb e=>by
  have:=List.count_eq_zero.1 h;rw[e]at hb;exact this hb
 induction l with
 |nil=>rfl
 |cons b l ih=>
  rw[List.flatMap_cons,if_neg (hn b (by simp)),ih (by
   rw[List.count_cons]at h;omega) (fun x hx=>hn x (by simp[hx]))]
  rfl
def dblB(l:Bs):Bs:=zB8 39 [39,39] l
def zA2(s:ByteArray):Bs×Int:=if cleanM s false=s.size then(39::dblB s.data.toList++[39],0) else([],2)
theorem dblB_len: ∀l:Bs,(dblB l).length<=2*l.length
 | []=>Nat.le_refl _
 |b::l=>by
  have:=dblB_len l;unfold dblB zB8 at *;rw[List.flatMap_cons,List.length_append,List.length_cons];split<;>simp only[List.length_cons,List.length_nil]<;>omega
theorem vld_clean(s:ByteArray): ∀f p,s.size<=p+f->(vld s f p).2=false->clnM s false f p<s.size
 |0,p,h,h2=>by cases h2
 |f+1,p,h,h2=>by
  by_cases hp:p<s.size
  ·by_cases hb:bad s p
   ·rw[zQ8 s false f p hp (by unfold badC;rw[decide_eq_true hb];rfl)];exact hp
   ·unfold vld at h2;rw[if_pos hp,if_neg hb]at h2;have hw:=zi4 s p;have:=vld_clean s f (p+wd s p) (by omega) h2;cases hc:badC s false p with
    |true=>rw[zQ8 s false f p hp hc];exact hp
    |false=>rw[clnM_step s false f p hp hc];exact this
  ·rw[zN s (f+1) p hp]at h2;cases h2
theorem clean_round(s:ByteArray)(f p:Nat)(h:p<s.size)(hb: ¬bad s p):clnM s false (f+1) p=if byt s p<32 then p else clnM s false f (p+wd s p):=by
 split
 ·rename_i h32;exact zQ8 s false f p h (by unfold badC;rw[decide_eq_true h32];simp)
 ·rename_i h32;exact clnM_step s false f p h (by unfold badC;rw[decide_eq_false h32,decide_eq_false hb];rfl)
def zf8(l:Bs):Bool:=l.all fun c=>decide (32<=c.toNat)&&decide (c≠127)
def midL:UInt8->Bs->Bool
 |_,[]=>true
 |p,c::r=>(!(p==58&&c==32)&&!(p==32&&c==35))&&midL c r
def signsL:Bs:=[63,58,44,91,93,123,125,35,38,42,33,124,62,39,34,37,64,96,32]
def headL:Bs->Bool
 | []=>false
 |c::r=> !signsL.contains c&&!(c==45&&(decide (r=[])||r.head?==some 32))
def zh9(l:Bs):Bool:=(valid (st l)).2&&(headL l&&(decide (zC7 0 l≠32/\zC7 0 l≠58)&&(zf8 l&&midL 0 l)))
def zc3(l:Bs):Vl:=
 if l=[]\/l=[110,117,108,108]\/l=[126] then .mk 1 [] [] []
 else if l=[116,114,117,101]\/l=[102,97,108,115,101] then .mk 2 l [] []
 else if (zb3 l).2=0 then .mk 3 (zk9 (zb3 l).1) [] []
 else .mk 4 l [] []
def zj4(l:Bs):Bs×Int:=
 if l.head?=some 34 then((zb4 (st l)).1,(zb4 (st l)).2.2)
 else if (sglM (st l) 0).2.2=0/\(sglM (st l) 0).2.1=l.length then((sglM (st l) 0).1,0) else([],2)
def RdOf(l:Bs)(v:Vl)(er:Int):Prop:=
 match l with
 | []=>v=zc3 []/\er=0
 |c::_=>
  if c=34\/c=39 then er=(zj4 l).2/\v=(if (zj4 l).2=0 then .mk 4 (zj4 l).1 [] [] else zV)
  else if c=91\/c=123 then(match zc2 (st l) with| .inl q=>v=zV/\er=q.2| .inr ns=>er=0/\Rv (st l) ns 32 0 v ns.length)
  else if zh9 l=true then v=zc3 l/\er=0
  else v=zV/\er=2
def inQ(s d:Bs):Bs:=if zf8 s=true then(zA2 (st s)).1 else zn9 0 d
def zs1(v:Vl):Bs×Int:=
 if zg2 v=true then(if v.k=4 then(if zh9 v.t=true/\(zc3 v.t).k=4 then v.t else inQ v.t (prB false 0 0 v)) else zn9 0 (prB false 0 0 v),0) else([],1)
def keyL(l:Bs):Bs×Int:=
 match l with
 | []=>([],2)
 |c::_=>if c=34\/c=39 then zj4 l else if zh9 l=true then(l,0) else([],2)
def zs2(s:Bs):Bs×Int:=if (valid (st s)).2=true then(if zh9 s=true then s else inQ s (qtB s),0) else([],2)
theorem bare_parts {l:Bs} (h:zh9 l=true):(valid (st l)).2=true/\headL l=true/\zC7 0 l≠32/\zC7 0 l≠58/\zf8 l=true/\midL 0 l=true:=by
 unfold zh9 at h;simp only[Bool.and_eq_true,decide_eq_true_eq]at h;exact⟨h.1,h.2.1,h.2.2.1.1,h.2.2.1.2,h.2.2.2.1,h.2.2.2.2⟩
theorem bare_first {l:Bs} (h:zh9 l=true): ∃c r,l=c::r/\c≠34/\c≠39/\c≠91/\c≠123:=by
 have h1:=(bare_parts h).2.1;cases l with
 |nil=>cases h1
 |cons c r=>
  refine⟨c,r,rfl,?_⟩;unfold headL at h1;simp only[Bool.and_eq_true,Bool.not_eq_true']at h1;have h2:=h1.1;refine⟨?_,?_,?_,?_⟩
  all_goals (rintro rfl;exact absurd h2 (by decide))
theorem read_bare {l:Bs} (h:zh9 l=true):RdOf l (zc3 l) 0:=by
 obtain⟨c,r,rfl,h1,h2,h3,h4⟩:=bare_first h;unfold RdOf;simp only;rw[if_neg (by simp[h1,h2]),if_neg (by simp[h3,h4]),if_pos h];exact⟨trivial,trivial⟩
theorem encU_low {c:UInt8} (h:c.toNat<128):encB c.toNat=[c]:=by
 unfold encB;rw[Lib.encodeRuneZ_one (by omega) (by omega)];simp
theorem num_bytes {c:UInt8} (h:numD c=true):32<c.toNat/\c.toNat<128/\c≠127/\c≠58/\c≠35:=by
 have key: ∀n:Nat,n<256->numD (UInt8.ofNat n)=true->32<n/\n<128/\UInt8.ofNat n≠127/\UInt8.ofNat n≠58/\UInt8.ofNat n≠35:=by decide+kernel
 have:=key c.toNat (UInt8.toNat_lt c);rw[UInt8.ofNat_toNat]at this;exact this h
theorem last_in: ∀ {l:Bs} (p:UInt8),l≠ []->zC7 p l∈l
 | [],_,h=>absurd rfl h
 | [c],_,_=>by simp[zC7]
 |c::d::l,p,_=>by
  have:=last_in (l:=d::l) c (by simp);exact List.mem_cons_of_mem _ this
end Go.Proofs.YtkafjblfjdpdaaaGreatDoor
