/-
  PLAIN MATHEMATICS: what is printed is read.
  PLAIN MATHEMATICS: a text made safe for a line: no 127, no # behind a blank; a string so written is read.
  PLAIN MATHEMATICS: a value's text with any way to write strings; made safe, it is read as that value.
  PLAIN MATHEMATICS: a line of YAML, taken apart; strings in single quotes.
-/
import Derived.Test.YtkafjblfjdpdaaaGreatDoorRdV
import Derived.Test.YtkafjblfjdpdaaaGreatDoorPrU
import Derived.Test.YtkafjblfjdpdaaaGreatDoorUna
namespace Go.Proofs.YtkafjblfjdpdaaaGreatDoor
open Go.RowKit
structure ValT(T:ByteArray)(d a:Nat)(l:Bs)(v:Vl)(toks:List Tok):Prop where
 nt: ∀m,NT T (a+l.length) m→NT T a (toks++m)
 hd: ∃t r,toks=t::r∧kindM t.1≠0
 go: ∀key ns r,ns.length+v.size≤4096→ ∃ns',valueM T.size (keyTx T) d (toks++r) key ns= .inr (r,ns')∧Rv T ns' d ns.length v v.size∧ns'.length=ns.length+v.size∧ ∃y,ns'[ns.length]?=some y∧y.ka=key.1∧y.kb=key.2
structure KV(T:ByteArray)(d:Nat)(ob:Bool)(q:Bs×Vl)(ns ns':List JN):Prop where
 rv:Rv T ns' d ns.length q.2 q.2.size
 ln:ns'.length=ns.length+q.2.size
 ky:ob=true→ ∃y,ns'[ns.length]?=some y∧StrOk T y.ka y.kb∧q.1=keyTx T y.ka y.kb
 at_: ∀i,i<ns.length→ns'[i]?=ns[i]?
structure KidT(T:ByteArray)(d:Nat)(ob:Bool)(a:Nat)(l:Bs)(q:Bs×Vl)(toks:List Tok):Prop where
 nt: ∀m,NT T (a+l.length) m→NT T a (toks++m)
 hd: ∃t r,toks=t::r∧t.1≠jendM ob
 go: ∀had ns r,(ob=true→q.1∉had)→ns.length+q.2.size≤4096→ ∃ns',kidM (valueM T.size (keyTx T) d) ob T.size (keyTx T) had (toks++r) ns= .inr (if ob=true then had++[q.1] else had,r,ns')∧KV T d ob q ns ns'
structure LV(T:ByteArray)(d:Nat)(ob:Bool)(k:Nat)(x0:JN)(its:List (Bs×Vl))(ns ns':List JN):Prop where
 own: ∃x idx,ns'[k]?=some x∧x.kd=x0.kd∧x.ka=x0.ka∧x.kb=x0.kb∧x.kids=x0.kids++idx∧idx.length=its.length∧ ∀i (hi:i<its.length),k<idx.getD i 0∧Rv T ns' d (idx.getD i 0) its[i].2 its[i].2.size∧(ob=true→ ∃y,ns'[idx.getD i 0]?=some y∧StrOk T y.ka y.kb∧its[i].1=keyTx T y.ka y.kb)
 ln:ns'.length=ns.length+Vl.sizes (its.map (·.2))
 at_: ∀i,i≠k→i<ns.length→ns'[i]?=ns[i]?
structure LoopT(T:ByteArray)(d:Nat)(ob:Bool)(a:Nat)(l:Bs)(its:List (Bs×Vl))(toks:List Tok):Prop where
 nt: ∀m,NT T (a+l.length) m→NT T a (toks++m)
 hd: ∃t r,toks=t::r∧t.1≠jendM ob
 ln:its.length≤toks.length
 go: ∀k f had fr ns R x0,its.length≤f→ns[k]?=some x0→(ob=true→ ∀q∈its,q.1∉had)→(ob=true→(its.map (·.1)).Nodup)→ns.length+Vl.sizes (its.map (·.2))≤4096→
  ∃ns',loopM (valueM T.size (keyTx T) d) ob T.size (keyTx T) k f had fr (toks++R) ns= .inr (R,ns')∧LV T d ob k x0 its ns ns'
section
variable {T:ByteArray} {d:Nat} {ob:Bool} {kt:Bs×Vl→Bs} {ln ln0:Bs}
end
theorem sizes_map: ∀l:List Vl,Vl.sizes l=(l.map Vl.size).sum
 | []=>rfl
 |v::l=>by simp only[Vl.sizes,List.map_cons,List.sum_cons,sizes_map l]
theorem zip_texts(g:Bs→Bs→Bs)(f:Vl→Bs): ∀(ks:List Bs) (is:List Vl),List.zipWith g ks (is.map f)=(ks.zip is).map fun q=>g q.1 (f q.2)
 | [],is=>by simp
 |k::ks,[]=>by simp
 |k::ks,x::is=>by
  simp only[List.map_cons,List.zipWith_cons_cons,List.zip_cons_cons,zip_texts g f ks is]
theorem qt_text {t:Bs}:(quoteM (st t)).1=qtB t:=rfl
end Go.Proofs.YtkafjblfjdpdaaaGreatDoor
namespace Go.Proofs.YtkafjblfjdpdaaaGreatDoor
open Go.RowKit
def safeL:UInt8→Bs→Bs
 |_,[]=> []
 |p,c::r=>(if c=127 then [92,117,48,48,55,102] else if c=35∧p=32 then [92,117,48,48,50,51] else [c])++safeL c r
def lastB:UInt8→Bs→UInt8
 |p,[]=>p
 |_,c::r=>lastB c r
theorem safe_app: ∀(a b:Bs) (p:UInt8),safeL p (a++b)=safeL p a++safeL (lastB p a) b
 | [],_,_=>rfl
 |c::a,b,p=>by
  rw[List.cons_append,safeL,safe_app a b c,safeL,List.append_assoc]
  rfl
theorem safe_no: ∀ {a:Bs} (p:UInt8),(∀c∈a,c≠127∧c≠35)→safeL p a=a
 | [],_,_=>rfl
 |c::a,p,h=>by
  have h1:=h c (by simp)
  rw[safeL,if_neg h1.1,if_neg (fun x=>h1.2 x.1),safe_no c (fun x hx=>h x (List.mem_cons_of_mem _ hx))]
  rfl
def Spells(P:Bs)(r:Nat):Prop:=P≠ []∧ ∀(t:ByteArray) (k:Nat),At t k P→byt t k≠34∧partM t k=some (r,P.length)
inductive SpellsAll:Bs→List Nat→Prop
 |nil:SpellsAll [] []
 |cons {P Q:Bs} {r:Nat} {rs:List Nat}:Spells P r→SpellsAll Q rs→SpellsAll (P++Q) (r::rs)
def qtS(t:Bs):Bs:=safeL 0 (qtB t)
structure Quo(Q:Bs→Bs):Prop where
 pos: ∀t,(valid (st t)).2=true→2≤(Q t).length
 one: ∀(T:ByteArray) (a:Nat) (t:Bs),(valid (st t)).2=true→At T a (Q t)→oneM T a=(8,a+(Q t).length,0)
 key: ∀(T:ByteArray) (a:Nat) (t:Bs),(valid (st t)).2=true→At T a (Q t)→a≤T.size→keyTx T a (a+(Q t).length)=t
end Go.Proofs.YtkafjblfjdpdaaaGreatDoor
namespace Go.Proofs.YtkafjblfjdpdaaaGreatDoor
open Go.RowKit
def memQ(Q:Bs→Bs)(k x:Bs):Bs:=Q k++(58::x)
mutual
def prQ(Q:Bs→Bs):Vl→Bs
 | .mk k t ks is=>
   if k=1 then [110,117,108,108] else if k=4 then Q t else if k=5 then listB false 0 0 91 93 (prQs Q is)
   else if k=6 then listB false 0 0 123 125 (List.zipWith (memQ Q) ks (prQs Q is)) else t
def prQs(Q:Bs→Bs):List Vl→List Bs
 | []=> []
 |x::r=>prQ Q x::prQs Q r
end
theorem decM_num {t:Bs} (h:decM t=true):t.all numD=true∧ ∃c r,t=c::r∧(c=45∨isDig c=true):=by
 unfold decM at h
 simp only[Bool.and_eq_true,decide_eq_true_eq]at h
 cases hs:splitM t with
 |none=>
  have h1:=h.1
  unfold parseM at h1
  rw[hs]at h1
  exact absurd h1 (show¬((2:Int)=0) by decide)
 |some q=>exact split_num hs
end Go.Proofs.YtkafjblfjdpdaaaGreatDoor
namespace Go.Proofs.YtkafjblfjdpdaaaGreatDoor
open Go.RowKit
def badC(s:ByteArray)(del:Bool)(p:Nat):Bool:=decide (bad s p)||decide (byt s p<32)||(del&&byt s p==127)
def clnM(s:ByteArray)(del:Bool):Nat→Nat→Nat
 |0,_=>s.size
 |f+1,p=>if p<s.size then(if badC s del p=true then p else clnM s del f (p+wd s p)) else s.size
def cleanM(s:ByteArray)(del:Bool):Nat:=clnM s del s.size 0
theorem clnM_end(s:ByteArray)(d:Bool)(f p:Nat)(h: ¬p<s.size):clnM s d f p=s.size:=by
 cases f with
 |zero=>rfl
 |succ f=>unfold clnM;rw[if_neg h]
theorem clnM_bad(s:ByteArray)(d:Bool)(f p:Nat)(h:p<s.size)(hb:badC s d p=true):clnM s d (f+1) p=p:=by unfold clnM;rw[if_pos h,if_pos hb]
theorem clnM_step(s:ByteArray)(d:Bool)(f p:Nat)(h:p<s.size)(hb:badC s d p=false):clnM s d (f+1) p=clnM s d f (p+wd s p):=by
 rw[clnM,if_pos h,if_neg (by rw[hb];exact Bool.false_ne_true)]
theorem clnM_ok(s:ByteArray)(d:Bool): ∀f p,s.size≤p+f→p≤s.size→clnM s d f p=s.size→(∀i,p≤i→i<s.size→32≤byt s i∧(d=true→byt s i≠127))∧(vld s f p).2=true
 |0,p,h,h0,_=>⟨fun i h1 h2=>by omega,rfl⟩
 |f+1,p,h,h0,he=>by
  by_cases hp:p<s.size
  ·cases hb:badC s d p with
   |true=>rw[clnM_bad s d f p hp hb]at he;omega
   |false=>
    rw[clnM_step s d f p hp hb]at he
    have hw:=wd_pos s p
    have hwl:=wd_le s p hp
    obtain⟨h1,h2⟩:=clnM_ok s d f (p+wd s p) (by omega) hwl he
    unfold badC at hb
    simp only[Bool.or_eq_false_iff,decide_eq_false_iff_not,Bool.and_eq_false_iff]at hb
    obtain⟨⟨hb1,hb2⟩,hb3⟩:=hb
    refine⟨fun i k1 k2=> ?_,?_⟩
    ·by_cases hi:i<p+wd s p
     ·by_cases hip:i=p
      ·subst hip
       refine⟨by omega,fun hd=> ?_⟩
       rcases hb3 with hb3|hb3
       ·rw[hd]at hb3;cases hb3
       ·exact fun h=>by rw[h]at hb3;cases hb3
      ·have:=wd_cont s p (i-p) (by omega) (by omega)
       rw[show p+(i-p)=i by omega]at this
       exact⟨by omega,fun _=>by omega⟩
     ·exact h1 i (by omega) k2
    ·unfold vld
     rw[if_pos hp,if_neg hb1]
     exact h2
  ·refine ⟨fun i h1 h2=>by omega,?_⟩
   rw[vld_end s (f+1) p hp]
def blkGo(s:ByteArray):Nat→Nat→Nat
 |0,p=>p
 |f+1,p=>if p<s.size∧byt s p=32 then blkGo s f (p+1) else p
def blk(s:ByteArray)(p:Nat):Nat:=blkGo s (s.size-p) p
def sgn(s:ByteArray)(p c:Nat):Bool:=decide (p<s.size)&&(byt s p==c)&&(decide (p+1=s.size)||byt s (p+1)==32)
def cmt(s:ByteArray)(p:Nat):Bool:=decide (0<p)&&byt s p==35&&byt s (p-1)==32
def keyGo(s:ByteArray)(a:Nat):Nat→Nat→Nat
 |0,_=>a
 |f+1,q=>if q<s.size then(if cmt s q=true then a else if a<q∧sgn s q 58=true then q else keyGo s a f (q+1)) else a
def keyTo(s:ByteArray)(a q:Nat):Nat:=keyGo s a (s.size-q) q
def cmtGo(s:ByteArray):Nat→Nat→Nat
 |0,_=>s.size
 |f+1,q=>if q<s.size then(if cmt s q=true then q else cmtGo s f (q+1)) else s.size
def cmtTo(s:ByteArray)(q:Nat):Nat:=cmtGo s (s.size-q) q
def trm(s:ByteArray)(a:Nat):Nat→Nat
 |0=>0
 |t+1=>if a<t+1∧byt s t=32 then trm s a t else t+1
def sglGo(s:ByteArray):Nat→Nat→Bs→Bs×Nat×Int
 |0,_,_=>([],s.size,2)
 |f+1,q,acc=>
  if q<s.size then
   (if byt s q=39 then(if q+1<s.size∧byt s (q+1)=39 then sglGo s f (q+2) (acc++[39]) else(acc,q+1,0))
    else if bad s q∨byt s q<32 then([],q,2)
    else sglGo s f (q+wd s q) (acc++runeAt s q))
  else([],s.size,2)
def sglM(s:ByteArray)(a:Int):Bs×Nat×Int:=
 if a<0∨(s.size:Int)<a then([],0,2) else if a.toNat=s.size∨byt s a.toNat≠39 then([],a.toNat,2) else sglGo s s.size (a.toNat+1) []
theorem sglGo_end {s:ByteArray} {f q:Nat} {acc:Bs} (h: ¬q<s.size):sglGo s f q acc=([],s.size,2):=by
 cases f with
 |zero=>rfl
 |succ f=>rw[sglGo,if_neg h]
theorem sglGo_two {s:ByteArray} {f q:Nat} {acc:Bs} (h:q<s.size)(h1:byt s q=39)(h2:q+1<s.size)(h3:byt s (q+1)=39):sglGo s (f+1) q acc=sglGo s f (q+2) (acc++[39]):=by
 rw[sglGo,if_pos h,if_pos h1,if_pos ⟨h2,h3⟩]
theorem sglGo_ok {s:ByteArray} {f q:Nat} {acc:Bs} (h:q<s.size)(h1:byt s q=39)(h2: ¬(q+1<s.size∧byt s (q+1)=39)):sglGo s (f+1) q acc=(acc,q+1,0):=by
 rw[sglGo,if_pos h,if_pos h1,if_neg h2]
theorem sglGo_bad {s:ByteArray} {f q:Nat} {acc:Bs} (h:q<s.size)(h1:byt s q≠39)(h2:bad s q∨byt s q<32):sglGo s (f+1) q acc=([],q,2):=by
 rw[sglGo,if_pos h,if_neg h1,if_pos h2]
theorem sglGo_rune {s:ByteArray} {f q:Nat} {acc:Bs} (h:q<s.size)(h1:byt s q≠39)(h2: ¬(bad s q∨byt s q<32)):sglGo s (f+1) q acc=sglGo s f (q+wd s q) (acc++runeAt s q):=by
 rw[sglGo,if_pos h,if_neg h1,if_neg h2]
def qtd(s:ByteArray)(p:Nat):Nat×Bool×Bool:=
 if p=s.size then(p,false,false)
 else if byt s p=34 then((scanM s p).1,true,(scanM s p).2.1==0)
 else if byt s p=39 then((sglM s p).2.1,true,(sglM s p).2.2==0)
 else(p,false,false)
def ykeyM(s:ByteArray)(p:Nat):Nat×Bool:=
 if (qtd s p).2.1=true then(if (qtd s p).2.2=true∧sgn s (qtd s p).1 58=true then((qtd s p).1,true) else(p,(qtd s p).2.2))
 else if byt s p=91∨byt s p=123 then(p,true)
 else(keyTo s p p,true)
def look(s:ByteArray)(p:Nat):Nat:=if (qtd s p).2.2=true then(qtd s p).1 else p
def restM(s:ByteArray)(p:Nat):(Nat×Nat)×Option Nat:=
 ((blk s p,trm s (blk s p) (cmtTo s (look s (blk s p)))),if cmtTo s (look s (blk s p))<s.size then some (cmtTo s (look s (blk s p))) else none)
def lineD(s:ByteArray)(p:Nat):Option (Nat×Option Nat×(Nat×Nat)×Option Nat):=
 if p=s.size then some (1,none,(p,p),none)
 else if byt s p=35 then some (2,none,(p,p),some p)
 else if sgn s p 45=true then some (3,none,restM s (p+1))
 else if (ykeyM s p).2=false then none
 else if p<(ykeyM s p).1 then some (4,some (ykeyM s p).1,restM s ((ykeyM s p).1+1))
 else some (5,none,restM s p)
end Go.Proofs.YtkafjblfjdpdaaaGreatDoor
