/-
  PLAIN MATHEMATICS: the tokens of a text that are no blanks, where the text stands within another one.
  PLAIN MATHEMATICS: a value that was read, read again where its tokens stand elsewhere; fewer levels; the runs within a run.
  PLAIN MATHEMATICS: what Parse answers of a text with blanks around it, in brackets, as a member; of a node's bytes alone.
  PLAIN MATHEMATICS: what is read is a value; where a path leads in a text, it leads in its value; a node's bytes, alone, are its value.
  PLAIN MATHEMATICS: the tokens of what is written: numbers, words, strings.
  WALKS: strings.Builder's methods at the head of a printer: copyCheck, WriteByte, WriteString.
-/
import Derived.Test.YtkafjblfjdpdaaaGreatDoorJsM
import Derived.Test.YtkafjblfjdpdaaaGreatDoorLexv
import Derived.Test.YtkafjblfjdpdaaaGreatDoorJwM
import Derived.Test.YtkafjblfjdpdaaaGreatDoorQuoteQ
import Derived.Test.YtkafjblfjdpdaaaGreatDoorUnqD
import Derived.Test.YtkafjblfjdpdaaaGreatDoorVlBC
namespace Go.Proofs.YtkafjblfjdpdaaaGreatDoor
open Go.RowKit
inductive NT (s:ByteArray):Nat→List Tok→Prop
 |nil {p:Nat}:runTo s isBlank p=s.size→NT s p []
 |cons {p k e:Nat} {l:List Tok}:runTo s isBlank p<s.size→oneM s (runTo s isBlank p)=(k,e,0)→k≠1→NT s e l→NT s p ((k,runTo s isBlank p,e)::l)
theorem NT.congr {s:ByteArray} {p q:Nat} {l:List Tok} (h:NT s p l)(he:runTo s isBlank p=runTo s isBlank q):NT s q l:=by
 cases h with
 |nil h1=>exact .nil (he▸h1)
 | @cons _ k e l h1 h2 h3 h4=>rw[he]at h1 h2 ⊢;exact .cons h1 h2 h3 h4
def mvT(φ:Nat→Nat)(t:Tok):Tok:=(t.1,φ t.2.1,φ t.2.2)
structure NR(φ:Nat→Nat)(o o':Nat)(x y:JN):Prop where
 kd:y.kd=x.kd
 a:y.a=φ x.a
 b:y.b=φ x.b
 kl:y.kids.length=x.kids.length
 kk: ∀(q j:Nat),x.kids[q]?=some j→ ∃j',y.kids[q]?=some j'∧j+o'=j'+o
def KR(φ:Nat→Nat)(a b:Nat×Nat):Prop:=(b.1=φ a.1∧b.2=φ a.2)∨(a.1=0∧a.2=0∧b.1=0∧b.2=0)
structure LR(φ:Nat→Nat)(n o o':Nat)(ns NS:List JN):Prop where
 ln:ns.length+o'=NS.length+o
 at_: ∀i I x,n≤i→i+o'=I+o→ns[i]?=some x→ ∃y,NS[I]?=some y∧NR φ o o' x y
 ky: ∀i I x y,n<i→i+o'=I+o→ns[i]?=some x→NS[I]?=some y→KR φ (x.ka,x.kb) (y.ka,y.kb)
theorem LR.leaf {φ:Nat→Nat} {n o o':Nat} {ns NS:List JN} (h:LR φ n o o' ns NS)(t:Tok)(key key':Nat×Nat)(hky:ns.length≤n∨KR φ key key'):LR φ n o o' (ns++[leafN t key]) (NS++[leafN (mvT φ t) key']):=by
 have hl:=h.ln
 refine⟨by simp only[List.length_append,List.length_singleton];omega,fun i I x h1 h2 h3=> ?_,fun i I x y h1 h2 h3 h4=> ?_⟩
 rotate_left
 ·rcases Nat.lt_or_ge i ns.length with h5|h5
  ·rw[List.getElem?_append_left h5]at h3
   rw[List.getElem?_append_left (by omega)]at h4
   exact h.ky i I x y h1 h2 h3 h4
  ·have h6:=(List.getElem?_eq_some_iff.1 h3).1
   rw[List.length_append,List.length_singleton]at h6
   obtain rfl:i=ns.length:=by omega
   obtain rfl:I=NS.length:=by omega
   rw[List.getElem?_append_right (Nat.le_refl _),Nat.sub_self]at h3 h4
   cases h3
   cases h4
   rcases hky with hky|hky
   ·omega
   ·exact hky
 rcases Nat.lt_or_ge i ns.length with h4|h4
 ·rw[List.getElem?_append_left h4]at h3
  obtain⟨y,h5,h6⟩:=h.at_ i I x h1 h2 h3
  exact⟨y,by rw[List.getElem?_append_left (by omega)];exact h5,h6⟩
 ·have h5:=(List.getElem?_eq_some_iff.1 h3).1
  rw[List.length_append,List.length_singleton]at h5
  obtain rfl:i=ns.length:=by omega
  obtain rfl:I=NS.length:=by omega
  rw[List.getElem?_append_right (Nat.le_refl _),Nat.sub_self]at h3
  cases h3
  exact⟨leafN (mvT φ t) key',by rw[List.getElem?_append_right (Nat.le_refl _),Nat.sub_self];rfl,rfl,rfl,rfl,rfl,fun q j h=>by simp[leafN]at h⟩
theorem LR.add {φ:Nat→Nat} {n o o':Nat} {ns NS:List JN} (h:LR φ n o o' ns NS) {k K kid kid':Nat} (hk:k+o'=K+o)(hkid:kid+o'=kid'+o)(pc pc':Nat×Nat):LR φ n o o' (addN ns k kid pc) (addN NS K kid' pc'):=by
 refine⟨by rw[addN_len,addN_len];exact h.ln,fun i I x h1 h2 h3=> ?_,fun i I x y h1 h2 h3 h4=> ?_⟩
 rotate_left
 ·by_cases e:i=k
  ·obtain rfl:I=K:=by omega
   subst e
   have h5:=(List.getElem?_eq_some_iff.1 h3).1
   have h6:=(List.getElem?_eq_some_iff.1 h4).1
   rw[addN_len]at h5 h6
   rw[addN_self (List.getElem?_eq_getElem h5)]at h3
   rw[addN_self (List.getElem?_eq_getElem h6)]at h4
   cases h3
   cases h4
   have h7:=h.ky i I _ _ h1 h2 (List.getElem?_eq_getElem h5) (List.getElem?_eq_getElem h6)
   exact h7
  ·rw[addN_at e]at h3
   rw[addN_at (by omega)]at h4
   exact h.ky i I x y h1 h2 h3 h4
 by_cases e:i=k
 ·obtain rfl:I=K:=by omega
  subst e
  have h4:=(List.getElem?_eq_some_iff.1 h3).1
  rw[addN_len]at h4
  obtain⟨x0,hx0⟩: ∃x0,ns[i]?=some x0:=⟨_,List.getElem?_eq_getElem h4⟩
  rw[addN_self hx0]at h3
  cases h3
  obtain⟨y,h5,h6⟩:=h.at_ i I x0 h1 h2 hx0
  refine⟨_,addN_self h5,h6.kd,h6.a,h6.b,by simp[h6.kl],fun q j hq=> ?_⟩
  simp only at hq ⊢
  rcases Nat.lt_or_ge q x0.kids.length with h7|h7
  ·rw[List.getElem?_append_left h7]at hq
   rw[List.getElem?_append_left (by rw[h6.kl];exact h7)]
   exact h6.kk q j hq
  ·have h8:=(List.getElem?_eq_some_iff.1 hq).1
   rw[List.length_append,List.length_singleton]at h8
   obtain rfl:q=x0.kids.length:=by omega
   rw[List.getElem?_append_right (Nat.le_refl _),Nat.sub_self]at hq
   cases hq
   exact⟨kid',by rw[List.getElem?_append_right (by rw[h6.kl];exact Nat.le_refl _),h6.kl,Nat.sub_self];rfl,hkid⟩
 ·rw[addN_at e]at h3
  obtain⟨y,h5,h6⟩:=h.at_ i I x h1 h2 h3
  exact⟨y,by rw[addN_at (by omega)];exact h5,h6⟩
theorem LR.close {φ:Nat→Nat} {n o o':Nat} {ns NS:List JN} (h:LR φ n o o' ns NS) {k K:Nat} (hk:k+o'=K+o)(b:Nat):LR φ n o o' (closeN ns k b) (closeN NS K (φ b)):=by
 refine⟨by rw[closeN_len,closeN_len];exact h.ln,fun i I x h1 h2 h3=> ?_,fun i I x y h1 h2 h3 h4=> ?_⟩
 rotate_left
 ·by_cases e:i=k
  ·obtain rfl:I=K:=by omega
   subst e
   have h5:=(List.getElem?_eq_some_iff.1 h3).1
   have h6:=(List.getElem?_eq_some_iff.1 h4).1
   rw[closeN_len]at h5 h6
   rw[closeN_self (List.getElem?_eq_getElem h5)]at h3
   rw[closeN_self (List.getElem?_eq_getElem h6)]at h4
   cases h3
   cases h4
   have h7:=h.ky i I _ _ h1 h2 (List.getElem?_eq_getElem h5) (List.getElem?_eq_getElem h6)
   exact h7
  ·rw[closeN_at e]at h3
   rw[closeN_at (by omega)]at h4
   exact h.ky i I x y h1 h2 h3 h4
 by_cases e:i=k
 ·obtain rfl:I=K:=by omega
  subst e
  have h4:=(List.getElem?_eq_some_iff.1 h3).1
  rw[closeN_len]at h4
  obtain⟨x0,hx0⟩: ∃x0,ns[i]?=some x0:=⟨_,List.getElem?_eq_getElem h4⟩
  rw[closeN_self hx0]at h3
  cases h3
  obtain⟨y,h5,h6⟩:=h.at_ i I x0 h1 h2 hx0
  exact⟨_,closeN_self h5,h6.kd,h6.a,rfl,h6.kl,h6.kk⟩
 ·rw[closeN_at e]at h3
  obtain⟨y,h5,h6⟩:=h.at_ i I x h1 h2 h3
  exact⟨y,by rw[closeN_at (by omega)];exact h5,h6⟩
section
variable {φ:Nat→Nat} {n o o':Nat} {tx tx':Nat→Nat→Bs} {z z':Nat} {v v':List Tok→Nat×Nat→List JN→JRes} {ob:Bool}
def TX(φ:Nat→Nat)(tx tx':Nat→Nat→Bs)(c:List Tok):Prop:= ∀t∈c,t.1=8→tx' (φ t.2.1) (φ t.2.2)=tx t.2.1 t.2.2
theorem TX.of {c c':List Tok} (h:TX φ tx tx' c)(hs: ∀t∈c',t∈c):TX φ tx tx' c':=fun t ht=>h t (hs t ht)
structure TSR(φ:Nat→Nat)(n o o':Nat)(tx tx':Nat→Nat→Bs)(c:List Tok)(ns ns':List JN)(run:List JN→List Tok→JRes):Prop where
 pos:0<c.length
 up:ns'.length≤ns.length+c.length
 ge:ns.length≤ns'.length
 go: ∀NS r,TX φ tx tx' c→LR φ n o o' ns NS→NS.length+c.length≤4096→ ∃NS',run NS (c.map (mvT φ)++r)= .inr (r,NS')∧LR φ n o o' ns' NS'
def TS(φ:Nat→Nat)(n o o':Nat)(tx tx':Nat→Nat→Bs)(v v':List Tok→Nat×Nat→List JN→JRes):Prop:= ∀l key ns l' ns',v l key ns= .inr (l',ns')→n≤ns.length→
 ∃c,l=c++l'∧(∃y c0 t,ns'[ns.length]?=some y∧c=c0++[t]∧y.b=t.2.2∧(c.head?.map fun t=>t.2.1)=some y.a)∧ ∀key',(ns.length≤n∨KR φ key key')→TSR φ n o o' tx tx' c ns ns' (fun NS L=>v' L key' NS)
end
section
variable {tx:Nat→Nat→Bs} {z:Nat} {v v':List Tok→Nat×Nat→List JN→JRes} {ob:Bool}
def E5(v v':List Tok→Nat×Nat→List JN→JRes):Prop:= ∀l key ns,v l key ns=v' l key ns∨ ∃wh,v l key ns= .inl (wh,5)
end
section
variable {tx:Nat→Nat→Bs} {z D:Nat} {v:List Tok→Nat×Nat→List JN→JRes} {ob:Bool}
structure SR(z:Nat)(tx:Nat→Nat→Bs)(D:Nat)(l:List Tok)(ns:List JN)(l':List Tok)(ns':List JN):Prop where
 sfx:l'<:+l
 na: ∀j x,ns.length≤j→ns'[j]?=some x→ ∃t∈l,x.a=t.2.1
 sub: ∀i,ns.length≤i→i<ns'.length→ ∃d l1 key1 ns1 l2 ns2,d≤D∧l1<:+l∧ns1.length=i∧valueM z tx d l1 key1 ns1= .inr (l2,ns2)∧ns2.length≤ns'.length∧(∀j,i≤j→j<ns2.length→ns'[j]?=ns2[j]?)∧l'<:+l2∧(∀j x,ns2.length≤j→ns'[j]?=some x→ ∃t∈l2,x.a=t.2.1)
def VSub(z:Nat)(tx:Nat→Nat→Bs)(D:Nat)(v:List Tok→Nat×Nat→List JN→JRes):Prop:= ∀l key ns l' ns',v l key ns= .inr (l',ns')→SR z tx D l ns l' ns'
theorem SR.weak {l L l':List Tok} {ns ns':List JN} (h:SR z tx D l ns l' ns')(hl:l<:+L):SR z tx D L ns l' ns':=
 ⟨h.sfx.trans hl,fun j x h1 h2=>by obtain⟨t,h3,h4⟩:=h.na j x h1 h2;exact⟨t,hl.subset h3,h4⟩,fun i h1 h2=>by
  obtain⟨d,l1,key1,ns1,l2,ns2,k1,k2,k3⟩:=h.sub i h1 h2
  exact⟨d,l1,key1,ns1,l2,ns2,k1,k2.trans hl,k3⟩⟩
end
theorem NT.mem {s:ByteArray} {p:Nat} {l:List Tok} (h:NT s p l):p≤s.size→(∀t∈l,p≤t.2.1∧t.2.1<t.2.2∧t.2.2≤s.size)∧l.length+p≤s.size:=by
 induction h with
 |nil _=>exact fun hp=>⟨fun t ht=>(by cases ht),(by simp;omega)⟩
 | @cons p k e l h1 h2 h3 h4 ih=>
   intro hp
   have hge:=runTo_ge s isBlank p
   have hbd:=oneM_bd s _ h1
   rw[h2]at hbd
   simp only at hbd
   have h5:=(hbd.2.2.2 trivial).1
   obtain⟨i1,i2⟩:=ih hbd.2.1
   refine⟨fun t ht=> ?_,by simp only[List.length_cons];omega⟩
   rcases List.mem_cons.1 ht with rfl|ht
   ·exact ⟨hge,h5,hbd.2.1⟩
   ·have:=i1 t ht
    omega
section
variable {s t:ByteArray} {m:Nat} (hz:m+s.size≤t.size) (hx: ∀j,j<s.size→byt t (m+j)=byt s j)
include hz hx
end
section
variable {tx:Nat→Nat→Bs} {z:Nat} {v:List Tok→Nat×Nat→List JN→JRes} {ob:Bool}
def W5(v:List Tok→Nat×Nat→List JN→JRes):Prop:= ∀l key ns wh,v l key ns= .inl (wh,5)→ ∃t∈l,wh=t.2.1
end
structure Nest(m kd:Nat)(ns cs:List JN):Prop where
 ln:cs.length=ns.length+1
 k0: ∃y,cs[0]?=some y∧y.kd=kd
 at_: ∀i x,ns[i]?=some x→ ∃y,cs[i+1]?=some y∧NR (m+ ·) 0 1 x y
structure NestR(s t:ByteArray)(m kd:Nat)(ns:List JN)(l:List Tok):Prop where
 yes: ∀us,valueM s.size (keyTx s) 31 l (0,0) []= .inr ([],us)→ ∃cs,jparseM t= .inr cs∧Nest m kd ns cs
 no:(∀us,valueM s.size (keyTx s) 31 l (0,0) []≠ .inr ([],us))→ ∃wh,m≤wh∧jparseM t= .inl (wh,5)
structure Alone(i:Nat)(x:JN)(ns cs:List JN):Prop where
 le:i+cs.length≤ns.length
 pos:0<cs.length
 at_: ∀j y,cs[j]?=some y→ ∃w,ns[i+j]?=some w∧y.kd=w.kd∧y.a+x.a=w.a∧y.b+x.a=w.b∧y.kids.length=w.kids.length∧ ∀(q k:Nat),y.kids[q]?=some k→w.kids[q]?=some (k+i)
 top: ∃y,cs[0]?=some y∧y.ka=0∧y.kb=0
 next: ∀w,ns[i+cs.length]?=some w→x.b≤w.a
 ky: ∀j y w,0<j→cs[j]?=some y→ns[i+j]?=some w→KR (·- x.a) (w.ka,w.kb) (y.ka,y.kb)
end Go.Proofs.YtkafjblfjdpdaaaGreatDoor
namespace Go.Proofs.YtkafjblfjdpdaaaGreatDoor
open Go.RowKit
end Go.Proofs.YtkafjblfjdpdaaaGreatDoor
namespace Go.Proofs.YtkafjblfjdpdaaaGreatDoor
open Go.RowKit
def numD(c:UInt8):Bool:=isNum c.toNat
theorem dig_num {c:UInt8} (h:isDig c=true):numD c=true:=by
 unfold isDig at h
 unfold numD isNum
 simp only[Bool.and_eq_true,decide_eq_true_eq]at h
 simp[h.1,h.2]
theorem digs_num {l:Bs} (h:l.all isDig=true):l.all numD=true:=by
 rw[List.all_eq_true]at *
 exact fun x hx=>dig_num (h x hx)
theorem fin_num {p:Parts} {d:Bool} {r:Bs} {q:Parts} (h:splitFin p d r=some q):r.all numD=true:=by
 unfold splitFin at h
 split at h
 ·rename_i h1
  exact digs_num h1.2
 ·cases h
theorem exp_num {p:Parts} {l:Bs} {q:Parts} (h:splitExp p l=some q):l.all numD=true:=by
 cases l with
 |nil=>rfl
 |cons c r=>
  unfold splitExp at h
  rw[List.all_cons,Bool.and_eq_true]
  by_cases h1:c=45
  ·subst h1
   exact⟨by decide,fin_num h⟩
  ·rw[if_neg (by simpa using h1)]at h
   by_cases h2:c=43
   ·subst h2
    exact⟨by decide,fin_num h⟩
   ·rw[if_neg (by simpa using h2)]at h
    have:=fin_num h
    rwa [List.all_cons,Bool.and_eq_true]at this
theorem tail_num {p:Parts} {l:Bs} {q:Parts} (h:splitTail p l=some q):l.all numD=true:=by
 cases l with
 |nil=>rfl
 |cons c r=>
  unfold splitTail at h
  simp only at h
  split at h
  ·rename_i hc
   rw[List.all_cons,Bool.and_eq_true]
   exact⟨by rcases hc with rfl|rfl<;>decide,exp_num h⟩
  ·cases h
theorem takeDrop_num {r:Bs} (h:(r.dropWhile isDig).all numD=true):r.all numD=true:=by
 have e:=List.takeWhile_append_dropWhile (p:=isDig) (l:=r)
 have h2:(r.takeWhile isDig++r.dropWhile isDig).all numD=true:=by rw[List.all_append,h,digs_num (takeWhile_all r)];rfl
 rwa [e]at h2
theorem frac_num {p:Parts} {l:Bs} {q:Parts} (h:splitFrac p l=some q):l.all numD=true:=by
 cases l with
 |nil=>rfl
 |cons c r=>
  by_cases hc:c=46
  ·subst hc
   have h2:(if r.takeWhile isDig=[] then none else splitTail {p with frac:=r.takeWhile isDig} (r.dropWhile isDig))=some q:=h
   split at h2
   ·cases h2
   ·rw[List.all_cons,Bool.and_eq_true]
    exact⟨by decide,takeDrop_num (tail_num h2)⟩
  ·have h2:splitTail p (c::r)=some q:=by
    unfold splitFrac at h
    split at h
    ·rename_i heq
     injection heq with h3
     exact absurd h3 hc
    ·exact h
   exact tail_num h2
theorem whole_num {n:Bool} {l:Bs} {q:Parts} (h:splitWhole n l=some q):l.all numD=true∧ ∃c r,l=c::r∧isDig c=true:=by
 unfold splitWhole at h
 simp only at h
 split at h
 ·cases h
 ·rename_i hw
  refine⟨takeDrop_num (frac_num h),?_⟩
  cases l with
  |nil=>exact absurd (.inl rfl) hw
  |cons c r=>
   refine⟨c,r,rfl,?_⟩
   cases hc:isDig c with
   |true=>rfl
   |false=>exact absurd (.inl (by simp[hc])) hw
theorem split_num {l:Bs} {q:Parts} (h:splitM l=some q):l.all numD=true∧ ∃c r,l=c::r∧(c=45∨isDig c=true):=by
 unfold splitM at h
 split at h
 ·rename_i h1
  cases l with
  |nil=>cases h1
  |cons c r=>
   have hc:c=45:=by simpa using h1
   subst hc
   obtain⟨h2,_⟩:=whole_num h
   exact⟨by rw[List.all_cons,Bool.and_eq_true];exact⟨by decide,h2⟩,_,_,rfl,.inl rfl⟩
 ·obtain ⟨h2,c,r,h3,h4⟩:=whole_num h
  exact⟨h2,c,r,h3,.inr h4⟩
theorem len_ba(s:ByteArray):s.data.toList.length=s.size:=Array.length_toList
def Term(T:ByteArray)(b:Nat):Prop:=b=T.size∨(isNum (byt T b)=false∧isLet (byt T b)=false)
theorem quote_len(t:ByteArray):(quoteM t).1.length≤6*t.size+2:=by
 by_cases h:(valid t).2=true
 ·rw[quoteM_yes h]
  have h1:=quoteB_len t.data.toList
  have h2:=len_ba t
  simp only[List.cons_append,List.length_cons,List.length_append,List.length_nil]
  omega
 ·rw[quoteM_no h]
  exact Nat.zero_le _
end Go.Proofs.YtkafjblfjdpdaaaGreatDoor
namespace Go.Proofs.YtkafjblfjdpdaaaGreatDoor
open Go.RowKit
def PrAt(B b:Nat)(p:Value)(l:Bs)(ls:Bool)(n:Int)(w:World):Prop:=
 B≤b∧ ∃v,w.heap[b]?=some (.cells #[p,v,.bool ls,.int .i64 n] 100 (0,0))∧w.ownsRow B 5 1 v l.length (Lib.byteCells l)
def Prn(B b:Nat)(l:Bs)(ls:Bool)(n:Int)(w:World):Prop:=PrAt B b (.pointer none) l ls n w∨PrAt B b (.pointer (some ⟨b,0,none⟩)) l ls n w
def PrW(B b:Nat)(l:Bs)(ls:Bool)(n:Int)(w w':World):Prop:=Prn B b l ls n w'∧Below B w w'∧Lib.OthersKept 5 (some b) w w'
theorem PrW.trans {B b:Nat} {l l':Bs} {ls ls':Bool} {n n':Int} {w w1 w2:World} (h:PrW B b l ls n w w1)(h':PrW B b l' ls' n' w1 w2):PrW B b l' ls' n' w w2:=⟨h'.1,h.2.1.trans h'.2.1,h.2.2.trans h'.2.2⟩
theorem pr_ne:100≠5:=by decide
theorem own_kept {w:World} {B e n:Nat} {v:Value} {xs:List Value} {b:Nat} (h:w.ownsRow B e 1 v n xs) {cs:Array Value} {T:TypeId} {fr:Nat×Nat} (hb:w.heap[b]?=some (.cells cs T fr))(hne:T≠e)(p:Addr)(hp:p.block=b)(u:Value):(w.setCell p u).ownsRow B e 1 v n xs:=
 h.kept (row:=some b) ⟨rfl,rfl,rfl,by simp[World.setCell],fun k _ hk=>Below.heap_setCell _ _ _ _ (fun e=>hk (by rw[←hp,e]))⟩ (Or.inr (Lib.ownBlock_ne h hb hne))
theorem set_at {w:World} {b:Nat} {cs:Array Value} {T:TypeId} {fr:Nat×Nat} (hb:w.heap[b]?=some (.cells cs T fr))(i:Nat)(u:Value):(w.setCell ⟨b,i,none⟩ u).heap[b]?=some (.cells (cs.setIfInBounds i u) T fr):=by
 simp[World.setCell,Array.getElem?_modify,hb]
theorem PrAt.used {B b:Nat} {p:Value} {l:Bs} {ls:Bool} {n:Int} {w:World} (h:PrAt B b p l ls n w)(q:Value):PrAt B b q l ls n (w.setCell ⟨b,0,none⟩ q):=by
 obtain⟨hB,v,hb,hown⟩:=h
 exact⟨hB,v,by simpa using set_at hb 0 q,own_kept hown hb pr_ne _ rfl _⟩
theorem PrAt.put {B b:Nat} {p v v':Value} {l':Bs} {ls:Bool} {n:Int} {w:World} (hB:B≤b)(hb:w.heap[b]?=some (.cells #[p,v,.bool ls,.int .i64 n] 100 (0,0)))(hown:w.ownsRow B 5 1 v' l'.length (Lib.byteCells l')):PrAt B b p l' ls n (w.setCell ⟨b,1,none⟩ v'):=
 ⟨hB,v',by simpa using set_at hb 1 v',own_kept hown hb pr_ne _ rfl _⟩
theorem PrAt.grow {B b:Nat} {p:Value} {l:Bs} {ls:Bool} {n:Int} {w w':World} (h:PrAt B b p l ls n w)(hb:Below w.heap.size w w'):PrAt B b p l ls n w':=by
 obtain⟨hB,v,hv,hown⟩:=h
 refine⟨hB,v,(hb.block b (Array.getElem?_eq_some_iff.1 hv).1).trans hv,hown.1,?_⟩
 rcases hown.2 with hn|⟨g,cap,cur,hv,hbg,hg,rest⟩
 ·exact .inl hn
 ·exact .inr ⟨g,cap,cur,hv,hbg,(hb.block g (Array.getElem?_eq_some_iff.1 hg).1).trans hg,rest⟩
theorem Prn.grow {B b:Nat} {l:Bs} {ls:Bool} {n:Int} {w w':World} (h:Prn B b l ls n w)(hb:Below w.heap.size w w'):Prn B b l ls n w':=h.elim (fun x=> .inl (x.grow hb)) (fun x=> .inr (x.grow hb))
theorem Prn.lt {B b:Nat} {l:Bs} {ls:Bool} {n:Int} {w:World} (h:Prn B b l ls n w):B≤b∧b<w.heap.size:=by
 rcases h with ⟨hB,v,hv,_⟩|⟨hB,v,hv,_⟩
 all_goals exact⟨hB,(Array.getElem?_eq_some_iff.1 hv).1⟩
theorem Prn.cells {B b:Nat} {l:Bs} {ls:Bool} {n:Int} {w:World} (h:Prn B b l ls n w):w.cell? ⟨b,2,none⟩=some (.bool ls)∧w.cell? ⟨b,3,none⟩=some (.int .i64 n):=by
 rcases h with ⟨hB,v,hv,_⟩|⟨hB,v,hv,_⟩
 all_goals exact⟨by rw[Lib.cell_of_heap hv];rfl,by rw[Lib.cell_of_heap hv];rfl⟩
theorem PrW.grow {B b:Nat} {l:Bs} {ls:Bool} {n:Int} {w w1 w2:World} (h:PrW B b l ls n w w1)(hb:Below w1.heap.size w1 w2)(hB:B≤w1.heap.size):PrW B b l ls n w w2:=
 ⟨h.1.grow hb,h.2.1.trans (hb.mono hB),fun k o hk hne ho=>by
  have h1:=h.2.2 k o hk hne ho
  exact(hb.block k (Array.getElem?_eq_some_iff.1 h1).1).trans h1⟩
theorem prn_size:(Tryz.prog.info? 98).map (·.size)=some 2:=by kernel_rfl
theorem prn_lies:liesAt Tryz.prog Tryz.prog.depth 100 (4/Tryz.prog.cellsOf 100) 0 98 1=true:=by kernel_rfl
theorem prn_ptr:Tryz.prog.underlying 95=some (.pointer 98):=by kernel_rfl
theorem prn_uns:Tryz.prog.underlying 192=some .unsafePointer:=by kernel_rfl
theorem prn_byte:(Tryz.prog.info? 5).map (fun i=>(i.zero,i.size,i.bytes))=some (some (.int .u8 0),1,1):=by kernel_rfl
set_option maxHeartbeats 1000000 in
set_option maxRecDepth 100000 in
theorem pcheck_used(b:Nat)(w:World)(h0:w.cell? ⟨b,0,none⟩=some (.pointer (some ⟨b,0,none⟩))):
 Calls Tryz.prog 137 #[.pointer (some ⟨b,0,none⟩)] w fun e w'=>e= .returned (.tuple #[])∧w'=w:=by
 obtain⟨j,hj,_⟩:=Option.map_eq_some_iff.1 prn_size
 have hNE:=Lib.run_neq_ptr_same (P:=Tryz.prog) w ⟨b,0,none⟩ prn_ptr hj
 go_enter Tryz.func137,Tryz.ntmps137
 go_wp2
 first
  |done
  |(rw[hNE]
    go_wp2
    go_end0
    exact⟨rfl,rfl⟩)
  |(go_end0
    exact⟨rfl,rfl⟩)
set_option maxHeartbeats 1000000 in
set_option maxRecDepth 100000 in
theorem pcheck_fresh(b:Nat)(w:World)(h0:w.cell? ⟨b,0,none⟩=some (.pointer none))(hsh:w.shape? b=some (100,4))(hfz:w.frozen? ⟨b,0,none⟩=false):
 Calls Tryz.prog 137 #[.pointer (some ⟨b,0,none⟩)] w fun e w'=>e= .returned (.tuple #[])∧w'=w.setCell ⟨b,0,none⟩ (.pointer (some ⟨b,0,none⟩)):=by
 obtain⟨j,hj,hjs⟩:=Option.map_eq_some_iff.1 prn_size
 go_enter Tryz.func137,Tryz.ntmps137
 go_wp2
 rw[Lib.run_to_unsafe w ⟨b,0,none⟩ prn_ptr prn_uns hj (by rw[hjs];decide) hsh (Nat.zero_lt_succ 3)]
 simp only[Result.andThen]
 rw[Oper.upon_value]
 go_wp2
 rw[run_callFunc_extern Tryz.func173 (by kernel_rfl) (by kernel_rfl) (by kernel_rfl) (e:=Extern.AbiNoEscape.same) (by kernel_rfl)]
 rw[Lib.run_noEscape]
 simp only[Result.andThen]
 rw[Oper.upon_value]
 go_wp2
 rw[Lib.run_from_unsafe w ⟨b,0,none⟩ prn_uns prn_ptr hj hsh prn_lies]
 simp only[Result.andThen]
 rw[Oper.upon_value]
 go_wp2
 go_end0
 exact⟨rfl,rfl⟩
theorem pcheck(B b:Nat)(l:Bs)(ls:Bool)(n:Int)(w:World)(h:Prn B b l ls n w):
 Calls Tryz.prog 137 #[.pointer (some ⟨b,0,none⟩)] w fun e w'=>e= .returned (.tuple #[])∧PrAt B b (.pointer (some ⟨b,0,none⟩)) l ls n w'∧Below B w w'∧Lib.OthersKept 5 (some b) w w':=by
 rcases h with h|h
 ·obtain ⟨hB,v,hv,hown⟩:=id h
  refine(pcheck_fresh b w (by rw[Lib.cell_of_heap hv];rfl) (by simp[World.shape?,hv]) (Lib.frozen_of_heap hv 0)).mono ?_
  rintro e w' ⟨rfl,rfl⟩
  exact⟨rfl,h.used _,(Below.refl B w).setCell (p:=⟨b,0,none⟩) hB _,(Lib.OthersKept.refl _ _ w).setCell ⟨b,0,none⟩ rfl _⟩
 ·obtain ⟨hB,v,hv,hown⟩:=id h
  refine(pcheck_used b w (by rw[Lib.cell_of_heap hv];rfl)).mono ?_
  rintro e w' ⟨rfl,rfl⟩
  exact⟨rfl,h,Below.refl B _,Lib.OthersKept.refl _ _ _⟩
theorem own_kind {w:World} {B:Nat} {e:TypeId} {v:Value} {n:Nat} {xs:List Value} (h:w.ownsRow B e 1 v n xs): ∀g,v.ownBlock=some g→ ∃c fz,w.heap[g]?=some (.cells c e fz):=Lib.ownsRowF_kind (World.ownsRowF_of h)
set_option maxHeartbeats 2000000 in
set_option maxRecDepth 100000 in
theorem pbyte(B b:Nat)(l:Bs)(ls:Bool)(n:Int)(c:UInt8)(w:World)(h:Prn B b l ls n w)(hl:l.length+1≤140737488355328)(hBw:B≤w.heap.size):
 Calls Tryz.prog 99 #[.pointer (some ⟨b,0,none⟩),.int .u8 (c.toNat:Int)] w fun e w'=>e= .returned .nilIface∧PrW B b (l++[c]) ls n w w':=by
 obtain⟨i0,hi,hz0,hz1,hz2⟩:=info_parts prn_byte
 have HC:=hq (pcheck B b l ls n w h)
 clear h
 go_enter Tryz.func99,Tryz.ntmps99
 go_wp2_with fail
 refine HC.o.mono ?_
 rintro e w1 ⟨rfl,h1,hb1,hk1⟩
 obtain⟨hB,v,hbk,hown⟩:=h1
 have hne:=Lib.ownBlock_ne hown hbk pr_ne
 have c0:w1.cell? ⟨b,0,none⟩=some (.pointer (some ⟨b,0,none⟩)):=by rw[Lib.cell_of_heap hbk];rfl
 have c1:w1.cell? ⟨b,1,none⟩=some v:=by rw[Lib.cell_of_heap hbk];rfl
 go_wp2_with (at_builtin;refine wpList_append_own _ rfl _ _ 96 rfl B 5 i0 (.int .u8 0) 1 1 (by kernel_rfl) hi hz0 hz1 hz2 rfl (by decide) _ _ _ rfl (hown.alloc _) ⟨w1.heap.size,0,none⟩ 1 1 [.int .u8 (c.toNat:Int)] rfl rfl ?c1 ?c2 ?c3 ?c4 ?c5 ?_)
 case c1=>
  intro j u hj
  match j,hj with
  |0,hj=>simp at hj;subst hj;simp[Addr.add]
 case c2=>intro u hu;simp at hu;subst hu;rfl
 case c3=>unfold maxLen;omega
 case c4=>omega
 case c5=>have:=hb1.size;simp;omega
 intro v' w2 hown' hgrow _
 have hlt:b<w1.heap.size:=(Array.getElem?_eq_some_iff.1 hbk).1
 have hb2:w2.heap[b]?=some (.cells #[.pointer (some ⟨b,0,none⟩),v,.bool ls,.int .i64 n] 100 (0,0)):=by
  rw[hgrow.block b (by simp;omega) (fun e=>hne e.symm),Lib.alloc_old w1 _ b hlt]
  exact hbk
 have d0:w2.cell? ⟨b,0,none⟩=some (.pointer (some ⟨b,0,none⟩)):=by rw[Lib.cell_of_heap hb2];rfl
 have d1:w2.cell? ⟨b,1,none⟩=some v:=by rw[Lib.cell_of_heap hb2];rfl
 have f1:w2.frozen? ⟨b,1,none⟩=false:=Lib.frozen_of_heap hb2 1
 obtain⟨g,cap,rfl⟩: ∃g cap,v'= .slice (some ⟨g,0,none⟩) (l.length+1) cap:=by
  rcases hown'.2 with ⟨_,h0⟩|⟨g,cap,cur,hv,_⟩
  ·omega
  ·exact ⟨g,cap,hv⟩
 go_wp2
 go_ret
 refine⟨rfl,.inr ?_,?_,((hk1.alloc _).grown hgrow (own_kind (hown.alloc _))).setCell ⟨b,1,none⟩ rfl _⟩
 ·exact PrAt.put hB hb2 (by
  have hc:Lib.byteCells (l++[c])=Lib.byteCells l++[.int .u8 (c.toNat:Int)]:=byteCells_app l [c]
  rw[hc]
  simpa using hown')
 ·exact ((hb1.alloc (by have:=hb1.size;omega) _).grown hgrow (by have:=hb1.size;simp;omega) (fun k hk=>(hown.lt k hk).1)).setCell (p:=⟨b,1,none⟩) hB _
set_option maxHeartbeats 2000000 in
set_option maxRecDepth 100000 in
theorem pstring(B b:Nat)(l t:Bs)(ls:Bool)(n:Int)(w:World)(h:Prn B b l ls n w)(hl:l.length+t.length≤140737488355328)(hBw:B≤w.heap.size):
 Calls Tryz.prog 91 #[.pointer (some ⟨b,0,none⟩),.string (st t)] w fun e w'=>(∃m,e= .returned (.tuple #[.int .i64 m,.nilIface]))∧PrW B b (l++t) ls n w w':=by
 obtain⟨i0,hi,hz0,hz1,hz2⟩:=info_parts prn_byte
 have HC:=hq (pcheck B b l ls n w h)
 have hst:(st t).size=t.length:=st_size t
 clear h
 have hcells:Lib.strCells (st t)=Lib.byteCells t:=rfl
 generalize st t=s at *
 go_enter Tryz.func91,Tryz.ntmps91
 go_wp2_with fail
 refine HC.o.mono ?_
 rintro e w1 ⟨rfl,h1,hb1,hk1⟩
 obtain⟨hB,v,hbk,hown⟩:=h1
 have hne:=Lib.ownBlock_ne hown hbk pr_ne
 have c0:w1.cell? ⟨b,0,none⟩=some (.pointer (some ⟨b,0,none⟩)):=by rw[Lib.cell_of_heap hbk];rfl
 have c1:w1.cell? ⟨b,1,none⟩=some v:=by rw[Lib.cell_of_heap hbk];rfl
 go_wp2_with (at_builtin;refine Lib.wpList_append_own_string _ rfl _ _ 96 9 rfl B 5 i0 (by kernel_rfl) (by kernel_rfl) hi hz0 hz1 hz2 _ _ _ rfl hown s rfl ?c3 ?c4 ?c5 ?_)
 case c3=>unfold maxLen;omega
 case c4=>omega
 case c5=>have:=hb1.size;omega
 intro v' w2 hown' hgrow _
 have hlt:b<w1.heap.size:=(Array.getElem?_eq_some_iff.1 hbk).1
 have hb2:w2.heap[b]?=some (.cells #[.pointer (some ⟨b,0,none⟩),v,.bool ls,.int .i64 n] 100 (0,0)):=by
  rw[hgrow.block b hlt (fun e=>hne e.symm)]
  exact hbk
 have d0:w2.cell? ⟨b,0,none⟩=some (.pointer (some ⟨b,0,none⟩)):=by rw[Lib.cell_of_heap hb2];rfl
 have d1:w2.cell? ⟨b,1,none⟩=some v:=by rw[Lib.cell_of_heap hb2];rfl
 have f1:w2.frozen? ⟨b,1,none⟩=false:=Lib.frozen_of_heap hb2 1
 obtain⟨ao,n',cap,rfl⟩: ∃ao n' cap,v'= .slice ao n' cap:=by
  rcases hown'.2 with ⟨hv,_⟩|⟨g,cap,cur,hv,_⟩
  ·exact ⟨_,_,_,hv⟩
  ·exact ⟨_,_,_,hv⟩
 go_wp2
 go_ret2
 refine⟨⟨_,rfl⟩,.inr ?_,?_,(hk1.grown hgrow (own_kind hown)).setCell ⟨b,1,none⟩ rfl _⟩
 ·exact PrAt.put hB hb2 (by rw[byteCells_app,List.length_append];exact hown')
 ·exact (hb1.grown hgrow (by have:=hb1.size;omega) (fun k hk=>(hown.lt k hk).1)).setCell (p:=⟨b,1,none⟩) hB _
end Go.Proofs.YtkafjblfjdpdaaaGreatDoor
