/-
  PLAIN MATHEMATICS: the tokens of a text that are no blanks, where the text stands within another one.
  PLAIN MATHEMATICS: a value that was read, read again where its tokens stand elsewhere; fewer levels; the runs within a run.
  PLAIN MATHEMATICS: what Parse answers of a text with blanks around it, in brackets, as a member; of a node's bytes alone.
  PLAIN MATHEMATICS: what is read is a value; where a path leads in a text, it leads in its value; a node's bytes, alone, are its value.
  PLAIN MATHEMATICS: the tokens of what is written: numbers, words, strings.
-/
import Derived.Test.YtkafjblfjdpdaaaGreatDoorRdi
import Derived.Test.YtkafjblfjdpdaaaGreatDoorUnqD
namespace Go.Proofs.YtkafjblfjdpdaaaGreatDoor
open Go.RowKit
inductive NT (s:ByteArray):Nat->List Tok->Prop
 |nil {p:Nat}:zc6 s zf1 p=s.size->NT s p []
 |cons {p k e:Nat} {l:List Tok}:zc6 s zf1 p<s.size->oneM s (zc6 s zf1 p)=(k,e,0)->k≠1->NT s e l->NT s p ((k,zc6 s zf1 p,e)::l)
theorem NT.congr {s:ByteArray} {p q:Nat} {l:List Tok} (h:NT s p l)(he:zc6 s zf1 p=zc6 s zf1 q):NT s q l:=by
 cases h with
 |nil h1=>exact .nil (he▸h1)
 | @cons _ k e l h1 h2 h3 h4=>rw[he]at h1 h2 ⊢;exact .cons h1 h2 h3 h4
def mvT(φ:Nat->Nat)(t:Tok):Tok:=(t.1,φ t.2.1,φ t.2.2)
structure NR(φ:Nat->Nat)(o o':Nat)(x y:JN):Prop where
 kd:y.kd=x.kd
 a:y.a=φ x.a
 b:y.b=φ x.b
 kl:y.kids.length=x.kids.length
 kk: ∀(q j:Nat),x.kids[q]?=some j-> ∃j',y.kids[q]?=some j'/\j+o'=j'+o
def KR(φ:Nat->Nat)(a b:Nat×Nat):Prop:=(b.1=φ a.1/\b.2=φ a.2)\/(a.1=0/\a.2=0/\b.1=0/\b.2=0)
structure LR(φ:Nat->Nat)(n o o':Nat)(ns NS:List JN):Prop where
 ln:ns.length+o'=NS.length+o
 at_: ∀i I x,n<=i->i+o'=I+o->ns[i]?=some x-> ∃y,NS[I]?=some y/\NR φ o o' x y
 ky: ∀i I x y,n<i->i+o'=I+o->ns[i]?=some x->NS[I]?=some y->KR φ (x.ka,x.kb) (y.ka,y.kb)
theorem LR.leaf {φ:Nat->Nat} {n o o':Nat} {ns NS:List JN} (h:LR φ n o o' ns NS)(t:Tok)(key key':Nat×Nat)(hky:ns.length<=n\/KR φ key key'):LR φ n o o' (ns++[ze9 t key]) (NS++[ze9 (mvT φ t) key']):=by
 have hl:=h.ln;refine⟨by simp only[List.length_append,List.length_singleton];omega,fun i I x h1 h2 h3=> ?_,fun i I x y h1 h2 h3 h4=> ?_⟩
 rotate_left
 ·rcases Nat.lt_or_ge i ns.length with h5|h5
  ·rw[List.getElem?_append_left h5]at h3;rw[List.getElem?_append_left (by omega)]at h4;exact h.ky i I x y h1 h2 h3 h4
  ·have h6:=(List.getElem?_eq_some_iff.1 h3).1;rw[List.length_append,List.length_singleton]at h6;obtain rfl:i=ns.length:=by omega
   obtain rfl:I=NS.length:=by omega
   rw[List.getElem?_append_right (Nat.le_refl _),Nat.sub_self]at h3 h4;cases h3;cases h4;rcases hky with hky|hky
   ·omega
   ·exact hky
 rcases Nat.lt_or_ge i ns.length with h4|h4
 ·rw[List.getElem?_append_left h4]at h3;obtain⟨y,h5,h6⟩:=h.at_ i I x h1 h2 h3;exact⟨y,by rw[List.getElem?_append_left (by omega)];exact h5,h6⟩
 ·have h5:=(List.getElem?_eq_some_iff.1 h3).1;rw[List.length_append,List.length_singleton]at h5;obtain rfl:i=ns.length:=by omega
  obtain rfl:I=NS.length:=by omega
  rw[List.getElem?_append_right (Nat.le_refl _),Nat.sub_self]at h3;cases h3;exact⟨ze9 (mvT φ t) key',by rw[List.getElem?_append_right (Nat.le_refl _),Nat.sub_self];rfl,rfl,rfl,rfl,rfl,fun q j h=>by simp[ze9]at h⟩
theorem LR.add {φ:Nat->Nat} {n o o':Nat} {ns NS:List JN} (h:LR φ n o o' ns NS) {k K kid kid':Nat} (hk:k+o'=K+o)(hkid:kid+o'=kid'+o)(pc pc':Nat×Nat):LR φ n o o' (addN ns k kid pc) (addN NS K kid' pc'):=by
 refine⟨by rw[zi1,zi1];exact h.ln,fun i I x h1 h2 h3=> ?_,fun i I x y h1 h2 h3 h4=> ?_⟩
 rotate_left
 ·by_cases e:i=k
  ·obtain rfl:I=K:=by omega
   subst e;have h5:=(List.getElem?_eq_some_iff.1 h3).1;have h6:=(List.getElem?_eq_some_iff.1 h4).1;rw[zi1]at h5 h6;rw[zt6 (List.getElem?_eq_getElem h5)]at h3;rw[zt6 (List.getElem?_eq_getElem h6)]at h4;cases h3;cases h4;have h7:=h.ky i I _ _ h1 h2 (List.getElem?_eq_getElem h5) (List.getElem?_eq_getElem h6);exact h7
  ·rw[zt7 e]at h3;rw[zt7 (by omega)]at h4;exact h.ky i I x y h1 h2 h3 h4
 by_cases e:i=k
 ·obtain rfl:I=K:=by omega
  subst e;have h4:=(List.getElem?_eq_some_iff.1 h3).1;rw[zi1]at h4;obtain⟨x0,hx0⟩: ∃x0,ns[i]?=some x0:=⟨_,List.getElem?_eq_getElem h4⟩;rw[zt6 hx0]at h3;cases h3;obtain⟨y,h5,h6⟩:=h.at_ i I x0 h1 h2 hx0;refine⟨_,zt6 h5,h6.kd,h6.a,h6.b,by simp[h6.kl],fun q j hq=> ?_⟩;simp only at hq ⊢;rcases Nat.lt_or_ge q x0.kids.length with h7|h7
  ·rw[List.getElem?_append_left h7]at hq;rw[List.getElem?_append_left (by rw[h6.kl];exact h7)];exact h6.kk q j hq
  ·have h8:=(List.getElem?_eq_some_iff.1 hq).1;rw[List.length_append,List.length_singleton]at h8;obtain rfl:q=x0.kids.length:=by omega
   rw[List.getElem?_append_right (Nat.le_refl _),Nat.sub_self]at hq;cases hq;exact⟨kid',by rw[List.getElem?_append_right (by rw[h6.kl];exact Nat.le_refl _),h6.kl,Nat.sub_self];rfl,hkid⟩
 ·rw[zt7 e]at h3;obtain⟨y,h5,h6⟩:=h.at_ i I x h1 h2 h3;exact⟨y,by rw[zt7 (by omega)];exact h5,h6⟩
theorem LR.close {φ:Nat->Nat} {n o o':Nat} {ns NS:List JN} (h:LR φ n o o' ns NS) {k K:Nat} (hk:k+o'=K+o)(b:Nat):LR φ n o o' (closeN ns k b) (closeN NS K (φ b)):=by
 refine⟨by rw[zh5,zh5];exact h.ln,fun i I x h1 h2 h3=> ?_,fun i I x y h1 h2 h3 h4=> ?_⟩
 rotate_left
 ·by_cases e:i=k
  ·obtain rfl:I=K:=by omega
   subst e;have h5:=(List.getElem?_eq_some_iff.1 h3).1;have h6:=(List.getElem?_eq_some_iff.1 h4).1;rw[zh5]at h5 h6;rw[zk0 (List.getElem?_eq_getElem h5)]at h3;rw[zk0 (List.getElem?_eq_getElem h6)]at h4;cases h3;cases h4;have h7:=h.ky i I _ _ h1 h2 (List.getElem?_eq_getElem h5) (List.getElem?_eq_getElem h6);exact h7
  ·rw[zj6 e]at h3;rw[zj6 (by omega)]at h4;exact h.ky i I x y h1 h2 h3 h4
 by_cases e:i=k
 ·obtain rfl:I=K:=by omega
  subst e;have h4:=(List.getElem?_eq_some_iff.1 h3).1;rw[zh5]at h4;obtain⟨x0,hx0⟩: ∃x0,ns[i]?=some x0:=⟨_,List.getElem?_eq_getElem h4⟩;rw[zk0 hx0]at h3;cases h3;obtain⟨y,h5,h6⟩:=h.at_ i I x0 h1 h2 hx0;exact⟨_,zk0 h5,h6.kd,h6.a,rfl,h6.kl,h6.kk⟩
 ·rw[zj6 e]at h3;obtain⟨y,h5,h6⟩:=h.at_ i I x h1 h2 h3;exact⟨y,by rw[zj6 (by omega)];exact h5,h6⟩
section
variable {φ:Nat->Nat} {n o o':Nat} {tx tx':Nat->Nat->Bs} {z z':Nat} {v v':List Tok->Nat×Nat->List JN->JRes} {ob:Bool}
def TX(φ:Nat->Nat)(tx tx':Nat->Nat->Bs)(c:List Tok):Prop:= ∀t∈c,t.1=8->tx' (φ t.2.1) (φ t.2.2)=tx t.2.1 t.2.2
theorem TX.of {c c':List Tok} (h:TX φ tx tx' c)(hs: ∀t∈c',t∈c):TX φ tx tx' c':=fun t ht=>h t (hs t ht)
structure TSR(φ:Nat->Nat)(n o o':Nat)(tx tx':Nat->Nat->Bs)(c:List Tok)(ns ns':List JN)(run:List JN->List Tok->JRes):Prop where
 pos:0<c.length
 up:ns'.length<=ns.length+c.length
 ge:ns.length<=ns'.length
 go: ∀NS r,TX φ tx tx' c->LR φ n o o' ns NS->NS.length+c.length<=4096-> ∃NS',run NS (c.map (mvT φ)++r)= .inr (r,NS')/\LR φ n o o' ns' NS'
def TS(φ:Nat->Nat)(n o o':Nat)(tx tx':Nat->Nat->Bs)(v v':List Tok->Nat×Nat->List JN->JRes):Prop:= ∀l key ns l' ns',v l key ns= .inr (l',ns')->n<=ns.length->
 ∃c,l=c++l'/\(∃y c0 t,ns'[ns.length]?=some y/\c=c0++[t]/\y.b=t.2.2/\(c.head?.map fun t=>t.2.1)=some y.a)/\ ∀key',(ns.length<=n\/KR φ key key')->TSR φ n o o' tx tx' c ns ns' (fun NS L=>v' L key' NS)
end
section
variable {tx:Nat->Nat->Bs} {z:Nat} {v v':List Tok->Nat×Nat->List JN->JRes} {ob:Bool}
def E5(v v':List Tok->Nat×Nat->List JN->JRes):Prop:= ∀l key ns,v l key ns=v' l key ns\/ ∃wh,v l key ns= .inl (wh,5)
end
section
variable {tx:Nat->Nat->Bs} {z D:Nat} {v:List Tok->Nat×Nat->List JN->JRes} {ob:Bool}
structure SR(z:Nat)(tx:Nat->Nat->Bs)(D:Nat)(l:List Tok)(ns:List JN)(l':List Tok)(ns':List JN):Prop where
 sfx:l'<:+l
 na: ∀j x,ns.length<=j->ns'[j]?=some x-> ∃t∈l,x.a=t.2.1
 sub: ∀i,ns.length<=i->i<ns'.length-> ∃d l1 key1 ns1 l2 ns2,d<=D/\l1<:+l/\ns1.length=i/\za4 z tx d l1 key1 ns1= .inr (l2,ns2)/\ns2.length<=ns'.length/\(∀j,i<=j->j<ns2.length->ns'[j]?=ns2[j]?)/\l'<:+l2/\(∀j x,ns2.length<=j->ns'[j]?=some x-> ∃t∈l2,x.a=t.2.1)
def VSub(z:Nat)(tx:Nat->Nat->Bs)(D:Nat)(v:List Tok->Nat×Nat->List JN->JRes):Prop:= ∀l key ns l' ns',v l key ns= .inr (l',ns')->SR z tx D l ns l' ns'
theorem SR.weak {l L l':List Tok} {ns ns':List JN} (h:SR z tx D l ns l' ns')(hl:l<:+L):SR z tx D L ns l' ns':=
 ⟨h.sfx.trans hl,fun j x h1 h2=>by obtain⟨t,h3,h4⟩:=h.na j x h1 h2;exact⟨t,hl.subset h3,h4⟩,fun i h1 h2=>by
  obtain⟨d,l1,key1,ns1,l2,ns2,k1,k2,k3⟩:=h.sub i h1 h2;exact⟨d,l1,key1,ns1,l2,ns2,k1,k2.trans hl,k3⟩⟩
end
theorem NT.mem {s:ByteArray} {p:Nat} {l:List Tok} (h:NT s p l):p<=s.size->(∀t∈l,p<=t.2.1/\t.2.1<t.2.2/\t.2.2<=s.size)/\l.length+p<=s.size:=by
 induction h with
 |nil _=>exact fun hp=>⟨fun t ht=>(by cases ht),(by simp;omega)⟩
 | @cons p k e l h1 h2 h3 h4 ih=>
   intro hp;have hge:=zp0 s zf1 p;have hbd:=zA4 s _ h1;rw[h2]at hbd;simp only at hbd;have h5:=(hbd.2.2.2 trivial).1;obtain⟨i1,i2⟩:=ih hbd.2.1;refine⟨fun t ht=> ?_,by simp only[List.length_cons];omega⟩;rcases List.mem_cons.1 ht with rfl|ht
   ·exact ⟨hge,h5,hbd.2.1⟩
   ·have:=i1 t ht;omega
section
variable {s t:ByteArray} {m:Nat} (hz:m+s.size<=t.size) (hx: ∀j,j<s.size->byt t (m+j)=byt s j)
include hz hx
end
section
variable {tx:Nat->Nat->Bs} {z:Nat} {v:List Tok->Nat×Nat->List JN->JRes} {ob:Bool}
def W5(v:List Tok->Nat×Nat->List JN->JRes):Prop:= ∀l key ns wh,v l key ns= .inl (wh,5)-> ∃t∈l,wh=t.2.1
end
structure Nest(m kd:Nat)(ns cs:List JN):Prop where
 ln:cs.length=ns.length+1
 k0: ∃y,cs[0]?=some y/\y.kd=kd
 at_: ∀i x,ns[i]?=some x-> ∃y,cs[i+1]?=some y/\NR (m+ ·) 0 1 x y
structure NestR(s t:ByteArray)(m kd:Nat)(ns:List JN)(l:List Tok):Prop where
 yes: ∀us,za4 s.size (za3 s) 31 l (0,0) []= .inr ([],us)-> ∃cs,zc2 t= .inr cs/\Nest m kd ns cs
 no:(∀us,za4 s.size (za3 s) 31 l (0,0) []≠ .inr ([],us))-> ∃wh,m<=wh/\zc2 t= .inl (wh,5)
structure Alone(i:Nat)(x:JN)(ns cs:List JN):Prop where
 le:i+cs.length<=ns.length
 pos:0<cs.length
 at_: ∀j y,cs[j]?=some y-> ∃w,ns[i+j]?=some w/\y.kd=w.kd/\y.a+x.a=w.a/\y.b+x.a=w.b/\y.kids.length=w.kids.length/\ ∀(q k:Nat),y.kids[q]?=some k->w.kids[q]?=some (k+i)
 top: ∃y,cs[0]?=some y/\y.ka=0/\y.kb=0
 next: ∀w,ns[i+cs.length]?=some w->x.b<=w.a
 ky: ∀j y w,0<j->cs[j]?=some y->ns[i+j]?=some w->KR (·- x.a) (w.ka,w.kb) (y.ka,y.kb)
def numD(c:UInt8):Bool:=zj2 c.toNat
theorem dig_num {c:UInt8} (h:za7 c=true):numD c=true:=by
 unfold za7 at h;unfold numD zj2;simp only[Bool.and_eq_true,decide_eq_true_eq]at h;simp[h.1,h.2]
theorem digs_num {l:Bs} (h:l.all za7=true):l.all numD=true:=by
 rw[List.all_eq_true]at *;exact fun x hx=>dig_num (h x hx)
theorem fin_num {p:Parts} {d:Bool} {r:Bs} {q:Parts} (h:zg8 p d r=some q):r.all numD=true:=by
 unfold zg8 at h;split at h
 ·rename_i h1;exact digs_num h1.2
 ·cases h
theorem exp_num {p:Parts} {l:Bs} {q:Parts} (h:zg9 p l=some q):l.all numD=true:=by
 cases l with
 |nil=>rfl
 |cons c r=>
  unfold zg9 at h;rw[List.all_cons,Bool.and_eq_true];by_cases h1:c=45
  ·subst h1;exact⟨by decide,fin_num h⟩
  ·rw[if_neg (by simpa using h1)]at h;by_cases h2:c=43
   ·subst h2;exact⟨by decide,fin_num h⟩
   ·rw[if_neg (by simpa using h2)]at h;have:=fin_num h;rwa [List.all_cons,Bool.and_eq_true]at this
theorem tail_num {p:Parts} {l:Bs} {q:Parts} (h:zf0 p l=some q):l.all numD=true:=by
 cases l with
 |nil=>rfl
 |cons c r=>
  unfold zf0 at h;simp only at h;split at h
  ·rename_i hc;rw[List.all_cons,Bool.and_eq_true];exact⟨by rcases hc with rfl|rfl<;>decide,exp_num h⟩
  ·cases h
theorem zB7 {r:Bs} (h:(r.dropWhile za7).all numD=true):r.all numD=true:=by
 have e:=List.takeWhile_append_dropWhile (p:=za7) (l:=r);have h2:(r.takeWhile za7++r.dropWhile za7).all numD=true:=by rw[List.all_append,h,digs_num (zi8 r)];rfl
 rwa [e]at h2
theorem frac_num {p:Parts} {l:Bs} {q:Parts} (h:zl p l=some q):l.all numD=true:=by
 cases l with
 |nil=>rfl
 |cons c r=>
  by_cases hc:c=46
  ·subst hc;have h2:(if r.takeWhile za7=[] then none else zf0 {p with frac:=r.takeWhile za7} (r.dropWhile za7))=some q:=h;split at h2
   ·cases h2
   ·rw[List.all_cons,Bool.and_eq_true];exact⟨by decide,zB7 (tail_num h2)⟩
  ·have h2:zf0 p (c::r)=some q:=by
    unfold zl at h;split at h
    ·rename_i heq;injection heq with h3
     exact absurd h3 hc
    ·exact h
   exact tail_num h2
theorem whole_num {n:Bool} {l:Bs} {q:Parts} (h:zg1 n l=some q):l.all numD=true/\ ∃c r,l=c::r/\za7 c=true:=by
 unfold zg1 at h;simp only at h;split at h
 ·cases h
 ·rename_i hw;refine⟨zB7 (frac_num h),?_⟩;cases l with
  |nil=>exact absurd (.inl rfl) hw
  |cons c r=>
   refine⟨c,r,rfl,?_⟩;cases hc:za7 c with
   |true=>rfl
   |false=>exact absurd (.inl (by simp[hc])) hw
theorem split_num {l:Bs} {q:Parts} (h:zm6 l=some q):l.all numD=true/\ ∃c r,l=c::r/\(c=45\/za7 c=true):=by
 unfold zm6 at h;split at h
 ·rename_i h1;cases l with
  |nil=>cases h1
  |cons c r=>
   have hc:c=45:=by simpa using h1
   subst hc;obtain⟨h2,_⟩:=whole_num h;exact⟨by rw[List.all_cons,Bool.and_eq_true];exact⟨by decide,h2⟩,_,_,rfl,.inl rfl⟩
 ·obtain ⟨h2,c,r,h3,h4⟩:=whole_num h;exact⟨h2,c,r,h3,.inr h4⟩
theorem len_ba(s:ByteArray):s.data.toList.length=s.size:=Array.length_toList
def Term(T:ByteArray)(b:Nat):Prop:=b=T.size\/(zj2 (byt T b)=false/\zi2 (byt T b)=false)
theorem quote_len(t:ByteArray):(zg6 t).1.length<=6*t.size+2:=by
 by_cases h:(valid t).2=true
 ·rw[zu5 h];have h1:=zu6 t.data.toList;have h2:=len_ba t;simp only[List.cons_append,List.length_cons,List.length_append,List.length_nil];omega
 ·rw[quoteM_no h];exact Nat.zero_le _
end Go.Proofs.YtkafjblfjdpdaaaGreatDoor
