/-
  SMALL WORDS ON MEMORY AND ON HIDING, of no program: a block whose cells are all known; a fact that a walk does not open.
  PLAIN MATHEMATICS, NO PROGRAM: widths of runes, lines of a text, the way from a byte to its line and column and back.
  PLAIN MATHEMATICS, NO PROGRAM: decimals as lists of bytes: literals, right numbers, their texts.
  A RANGE OVER A FUNCTION WHOSE ITERATOR WRITES A VARIABLE OF ITS OWN (captured, in a box): a law for a body that goes on in every round.
  SMALL WORDS ON MEMORY: new cells; a row that lies among others.
  PLAIN MATHEMATICS: the places of names; what rows say of two of them.
  PLAIN MATHEMATICS, NO PROGRAM: trees: how great, how deep, gone over one by one; orders of rows; pairs in the order of their keys.
  A ROW OF STRINGS AS AN ARGUMENT: read; carried into a world that has grown; a row of the call's own, read.
  TREES IN MEMORY: read; of a call's own.
  PLAIN MATHEMATICS of rules: which rows of texts a pattern fits.
  PLAIN MATHEMATICS of pointers' texts: a step with its two signs escaped, a path as a text, cut and unescaped again; what strings.ReplaceAll makes of one and of two bytes.
-/
import Derived.WalkSpells
import Derived.WalkLawsBesides
import Derived.Lib.DecodeN
import Derived.Lib.TrimByte
import Derived.RangeFuncNested
import Derived.RangeFuncBound
import Derived.Shelf.RegionOpen
import Derived.OwnWalkIn
import Derived.LoopNIn
import Derived.LoopIn
import Derived.SliceStrings
import Derived.ChangeAt
import Derived.OpenShut
import Derived.Lib.ReplaceLaws
namespace Go.Proofs.YtkafjblfjdpdaaaGreatDoor
open Go.RowKit
def Hq(p:Prop):Prop:=True->p
theorem Hq.o {p:Prop} (h:Hq p):p:=h trivial
theorem hq {p:Prop} (h:p):Hq p:=fun _=>h
theorem zb5 {k:IntKind} {a b:Int} (h:a=b):Value.int k a=Value.int k b:=by rw[h]
theorem ret_one {a a':Value} (h:a=a'):Ending.returned a=Ending.returned a':=by rw[h]
theorem zo2 {a a' b b':Value} (h:a=a')(h':b=b'):Ending.returned (.tuple #[a,b])=Ending.returned (.tuple #[a',b']):=by rw[h,h']
def Whole(w:World)(g:Nat)(t:TypeId)(cs:Array Value):Prop:=w.heap[g]?=some (.cells cs t (0,0))
section
variable {w w':World} {g:Nat} {t:TypeId} {cs:Array Value}
theorem Whole.lt(h:Whole w g t cs):g<w.heap.size:=(Array.getElem?_eq_some_iff.1 h).1
theorem Whole.at_(h:Whole w g t cs)(i:Nat):w.cell? ⟨g,i,none⟩=cs[i]?:=cell_of_row w g i cs t (0,0) h
theorem Whole.free(h:Whole w g t cs)(i:Nat):w.frozen? ⟨g,i,none⟩=false:=frozen_of_row w g i cs t h
theorem Whole.made(w:World)(t:TypeId)(cs:Array Value):Whole (w.alloc (.cells cs t)) w.heap.size t cs:=heap_alloc_new w _
theorem Whole.kept {B:Nat} (h:Whole w g t cs)(hb:Below B w w')(hg:g<B):Whole w' g t cs:=(hb.block g hg).trans h
theorem Whole.grow(h:Whole w g t cs)(hb:Below w.heap.size w w'):Whole w' g t cs:=h.kept hb h.lt
theorem Whole.alloc(h:Whole w g t cs)(o:Obj):Whole (w.alloc o) g t cs:=(Below.heap_alloc w o g h.lt).trans h
theorem Whole.put(h:Whole w g t cs)(i:Nat)(u:Value):Whole (w.setCell ⟨g,i,none⟩ u) g t (cs.setIfInBounds i u):=by
 unfold Whole at h ⊢;simp[World.setCell,Array.getElem?_modify,h]
theorem Whole.far(h:Whole w g t cs) {p:Addr} (hp:g≠p.block)(u:Value):Whole (w.setCell p u) g t cs:=(Below.heap_setCell w p u g hp).trans h
end
theorem za {w w' w'':World} (h:Below w.heap.size w w')(h':Below w'.heap.size w' w''):Below w.heap.size w w'':=h.trans (h'.mono h.size)
theorem za0(w:World)(o:Obj):Below w.heap.size w (w.alloc o):=(Below.refl _ _).alloc (Nat.le_refl _) o
end Go.Proofs.YtkafjblfjdpdaaaGreatDoor
namespace Go.Proofs.YtkafjblfjdpdaaaGreatDoor
def wd(s:ByteArray)(p:Nat):Nat:=(Utf8.decode s p).2
def byt(s:ByteArray)(p:Nat):Nat:=(s.get! p).toNat
theorem zd3(s:ByteArray)(p:Nat):byt s p<256:=(s.get! p).toNat_lt
theorem zb6(s:ByteArray)(p:Nat)(h:p<s.size):byt s p=(s[p]'h).toNat:=by
 unfold byt;rw[←get_at s p h];rfl
theorem zk3(s:ByteArray)(i:Nat):Utf8.decode s i=Lib.decodeN (s.size-i) (byt s i) (byt s (i+1)) (byt s (i+2)) (byt s (i+3)):=Lib.decode_at s i
theorem zi4(s:ByteArray)(p:Nat):1<=wd s p:=by
 unfold wd;rw[zk3];unfold Lib.decodeN;repeat' split
 all_goals simp
theorem wd_le4(s:ByteArray)(p:Nat):wd s p<=4:=by
 unfold wd;rw[zk3];unfold Lib.decodeN;repeat' split
 all_goals simp
theorem zp8(s:ByteArray)(p:Nat)(h:p<s.size):p+wd s p<=s.size:=by
 unfold wd;rw[zk3];unfold Lib.decodeN;repeat' split
 all_goals (simp only;try omega)
theorem wd_cont(s:ByteArray)(p j:Nat)(h1:1<=j)(h2:j<wd s p):128<=byt s (p+j):=by
 revert h2;unfold wd;rw[zk3];generalize s.size-p=n;have hj: ∀k,j=k->byt s (p+k)=byt s (p+j):=fun k hk=>by rw[hk]
 have e1:=hj 1;have e2:=hj 2;have e3:=hj 3;generalize byt s (p+j)=b at *;generalize byt s (p+1)=b1 at *;generalize byt s (p+2)=b2 at *;generalize byt s (p+3)=b3 at *;generalize byt s p=b0 at *;unfold Lib.decodeN
 repeat' split
 all_goals (intro h2;simp only at h2;omega)
theorem zf4(s:ByteArray)(p:Nat)(h:byt s p<128):Utf8.decode s p=(byt s p,1):=by
 rw[zk3];unfold Lib.decodeN;rw[if_pos h]
theorem zv(s:ByteArray)(p:Nat)(h:128<=byt s p):128<=(Utf8.decode s p).1:=by
 rw[zk3];unfold Lib.decodeN;rw[if_neg (by omega)];repeat' split
 all_goals (simp only;omega)
theorem dec_is(s:ByteArray)(p c:Nat)(hc:c<128):(Utf8.decode s p).1=c↔byt s p=c:=by
 by_cases h:byt s p<128
 ·rw[zf4 s p h]
 ·have:=zv s p (by omega);omega
theorem zK1(s:ByteArray)(p:Nat)(h:byt s p<128):wd s p=1:=by unfold wd;rw[zf4 s p h]
theorem zx0(s:ByteArray)(f t i:Nat)(ht:t<=s.size)(hn:t=s.size\/byt s (t-1)<128)(hi:f+i<t):Utf8.decode (s.extract f t) i=Utf8.decode s (f+i):=by
 have hz:(s.extract f t).size=t-f:=by rw[ByteArray.size_extract];omega
 have hb: ∀j,byt (s.extract f t) j=if f+j<t then byt s (f+j) else 0:=by
  intro j;by_cases hj:f+j<t
  ·rw[if_pos hj,zb6 _ j (by omega),zb6 _ (f+j) (by omega),ByteArray.getElem_extract]
  ·rw[if_neg hj];unfold byt;rw[show (s.extract f t).get! j=(s.extract f t).data[j]! from rfl,Array.getElem!_eq_getD,Array.getD];rw[dif_neg (by have:(s.extract f t).data.size=t-f:=hz;omega)];rfl
 rw[zk3,zk3,hz,hb,hb,hb,hb];have e1:f+(i+1)=f+i+1:=by omega
 have e2:f+(i+2)=f+i+2:=by omega
 have e3:f+(i+3)=f+i+3:=by omega
 rw[e1,e2,e3];have hn': ∀k,f+i+k+1=t->t≠s.size->byt s (f+i+k)<128:=by
  intro k hk hne;have:=hn.resolve_left hne;rw[←hk]at this;simpa using this
 have n0:=hn' 0;have n1:=hn' 1;have n2:=hn' 2;simp only[Nat.add_zero]at n0;rw[if_pos hi];generalize byt s (f+i+1)=b1 at *;generalize byt s (f+i+2)=b2 at *;generalize byt s (f+i+3)=b3 at *;generalize byt s (f+i)=b0 at *;generalize hp:f+i=p at *;have hsz:t-f-i=t-p:=by omega
 rw[hsz];by_cases he:t=s.size
 ·subst he;by_cases c1:p+1<s.size
  ·rw[if_pos c1];by_cases c2:p+2<s.size
   ·rw[if_pos c2];by_cases c3:p+3<s.size
    ·rw[if_pos c3]
    ·rw[if_neg c3];unfold Lib.decodeN;have: ¬(3<s.size-p):=by omega
     simp[this]
   ·rw[if_neg c2,if_neg (by omega)];unfold Lib.decodeN;have h2: ¬(2<s.size-p):=by omega
    simp[h2]
  ·rw[if_neg c1,if_neg (by omega),if_neg (by omega)];unfold Lib.decodeN;have h1: ¬(1<s.size-p):=by omega
   simp[h1]
 ·by_cases c1:p+1<t
  ·rw[if_pos c1];by_cases c2:p+2<t
   ·rw[if_pos c2];by_cases c3:p+3<t
    ·rw[if_pos c3];have m1:3<t-p:=by omega
     have m2:3<s.size-p:=by omega
     unfold Lib.decodeN;have a1:(1<t-p)=True:=by simp;omega
     have a2:(2<t-p)=True:=by simp;omega
     have a3:(1<s.size-p)=True:=by simp;omega
     have a4:(2<s.size-p)=True:=by simp;omega
     simp only[a1,a2,a3,a4,m1,m2]
    ·have k:=n2 (by omega) he;rw[if_neg c3];have m1: ¬3<t-p:=by omega
     unfold Lib.decodeN;have a1:(1<t-p)=True:=by simp;omega
     have a2:(2<t-p)=True:=by simp;omega
     have a3:(1<s.size-p)=True:=by simp;omega
     have a4:(2<s.size-p)=True:=by simp;omega
     have a5: ¬b2/64=2:=by omega
     simp only[a1,a2,a3,a4,m1,a5,false_and,and_false,true_and,if_false]
   ·have k:=n1 (by omega) he;rw[if_neg c2,if_neg (by omega)];unfold Lib.decodeN;have a1:(1<t-p)=True:=by simp;omega
    have a2: ¬(2<t-p):=by omega
    have a3:(1<s.size-p)=True:=by simp;omega
    have a5: ¬b1/64=2:=by omega
    simp only[a5,a2,false_and,and_false,if_false]
  ·have k:=n0 (by omega) he;unfold Lib.decodeN;rw[if_pos k,if_pos k]
def lst(s:ByteArray):Nat->Nat
 |0=>0
 |p+1=>if byt s p=10 then p+1 else lst s p
def lfs(s:ByteArray):Nat->Nat
 |0=>0
 |p+1=>if byt s p=10 then lfs s p+1 else lfs s p
def lnsTo(s:ByteArray):Nat->List (Nat×Nat)
 |0=> []
 |p+1=>if byt s p=10 then lnsTo s p++[(lst s p,p+1)] else lnsTo s p
def lns(s:ByteArray):List (Nat×Nat):=lnsTo s s.size++[(lst s s.size,s.size)]
def cols(s:ByteArray)(q:Nat):Nat->Nat->Nat
 |0,_=>0
 |fuel+1,p=>if p<s.size/\p+wd s p<=q then 1+cols s q fuel (p+wd s p) else 0
def walkTo(s:ByteArray)(t:Nat):Nat->Nat->Option Nat
 |0,p=>some p
 |c+1,p=>if p<t then walkTo s t c (p+wd s p) else none
inductive Begins (s:ByteArray):Nat->Prop
 |zero:Begins s 0
 |step {p:Nat} (h:Begins s p) (hp:p<s.size):Begins s (p+wd s p)
end Go.Proofs.YtkafjblfjdpdaaaGreatDoor
namespace Go.Proofs.YtkafjblfjdpdaaaGreatDoor
abbrev Bs:=List UInt8
abbrev st(l:Bs):ByteArray:=⟨l.toArray⟩
theorem zc7(l:Bs):(st l).data.toList=l:=by simp
theorem za8(l:Bs):(st l).size=l.length:=by simp[ByteArray.size]
theorem st_of(s:ByteArray):st s.data.toList=s:=by cases s;simp
theorem zB1(s:ByteArray)(a b:Nat):s.extract a b=st ((s.data.toList.drop a).take (b-a)):=by
 have h:(s.extract a b).data.toList=(s.data.toList.drop a).take (b-a):=by
  rw[ByteArray.data_extract,Array.toList_extract]
 rw[←h,st_of]
def za7(c:UInt8):Bool:=decide (48<=c.toNat)&&decide (c.toNat<=57)
def nd(l:Bs):Nat:=(l.takeWhile za7).length
theorem nd_le(l:Bs):nd l<=l.length:=by
 unfold nd;exact(List.takeWhile_prefix _).length_le
theorem nd_is(l:Bs)(k:Nat)(h: ∀j (hj:j<l.length),j<k->za7 l[j]=true)(hk: ∀hk:k<l.length,za7 l[k]=false)(hl:k<=l.length):nd l=k:=by
 induction l generalizing k with
 |nil=>simp at hl;subst hl;rfl
 |cons c l ih=>
  cases k with
  |zero=>
   have:=hk (by simp);simp at this;simp[nd,this]
  |succ k=>
   have h0:=h 0 (by simp) (by omega);simp at h0;have:=ih k (fun j hj hjk=>by have:=h (j+1) (by simp;omega) (by omega);simpa using this) (fun hk'=>by have:=hk (by simp;omega);simpa using this) (by simpa using hl);simp only[nd,List.takeWhile_cons,h0,if_true,List.length_cons]at *;omega
theorem take_nd(l:Bs):l.take (nd l)=l.takeWhile za7:=by
 unfold nd;have h:=List.takeWhile_append_dropWhile (p:=za7) (l:=l)
 conv=>lhs;rw[←h]
 rw[List.take_left'];simp[h]
theorem drop_nd(l:Bs):l.drop (nd l)=l.dropWhile za7:=by
 unfold nd;have h:=List.takeWhile_append_dropWhile (p:=za7) (l:=l)
 conv=>lhs;rw[←h]
 rw[List.drop_left'];simp[h]
end Go.Proofs.YtkafjblfjdpdaaaGreatDoor
namespace Go.Proofs.YtkafjblfjdpdaaaGreatDoor
open Go.RowKit Go.Shelf
def FreeOf {α:Type} (B:Nat)(J:List α->World->Prop):Prop:= ∀pre A u,J pre A->J pre (A.setCell ⟨B,0,none⟩ u)
def GivesB {α:Type} (F:Fence)(n:Nat)(P:Program)(g:Nat)(lb:Array Value)(encs:α->Array Value)(Kp:World->World->Prop)(Bn:Nat)(xs:List α)(w:World):Prop:=
 ∀(l:Nat) (J:List α->World->Prop) (W:World),Below w.heap.size w W->AbidesFrom W.heap.size J->FreeOf Bn J->
  (∀pre x W1,J pre W1->pre++[x]<+:xs->YieldAt F (n-1) P l (encs x) W1 fun e W'=>e= .returned (.bool true)/\J (pre++[x]) W'/\Kp W1 W')->
  J [] W->CallsIn F n P g (#[.func (.yield l) #[] #[]]++lb) W fun e W'=>(∃v,e= .returned v)/\J xs W'
def onPost(B:Nat)(Kp:World->World->Prop)(I:World->Prop)(W:World):Exit->Act->World->Prop
 | .normal,_,W'=>KeepsFrom B W W'/\Kp W W'/\I W'
 |_,_,_=>False
theorem ze0(w:World)(l:List Value)(T:TypeId): ∀j u,l[j]?=some u->(w.alloc (.cells l.toArray T)).cell? ((⟨w.heap.size,0,none⟩:Addr).add j)=some u:=by
 intro j u h;rw[show (⟨w.heap.size,0,none⟩:Addr).add j=⟨w.heap.size,j,none⟩ by simp[Addr.add];exact fun h=>h.symm,World.cell?_alloc_new];simpa using h
theorem all_ints(l:List Int): ∀u∈l.map (Value.int .i64),u.oneCell'=true:=by
 intro u hu;obtain⟨x,_,rfl⟩:=List.mem_map.1 hu;rfl
theorem zK3(a b c:Int): ∀u∈ [Value.int .i64 a,Value.int .i64 b,Value.int .i64 c],u.oneCell'=true:=all_ints [a,b,c]
theorem row_form {w:World} {B e size n:Nat} {v:Value} {xs:List Value} (h:w.ownsRow B e size v n xs): ∃b m c,v= .slice b m c:=by
 rcases h.2 with ⟨rfl,_⟩|⟨g,cap,cur,rfl,_⟩
 ·exact ⟨_,_,_,rfl⟩
 ·exact ⟨_,_,_,rfl⟩
end Go.Proofs.YtkafjblfjdpdaaaGreatDoor
namespace Go.Proofs.YtkafjblfjdpdaaaGreatDoor
open Go.Maps
def zt1(x:Bs)(l:List Bs):Nat->Option Nat
 |0=>none
 |k+1=>if l[k]?=some x then some k else zt1 x l k
def lastIx(x:Bs)(l:List Bs):Option Nat:=zt1 x l l.length
theorem lastTo_step {x:Bs} {l:List Bs} {k:Nat} (h:k<l.length):zt1 x l (k+1)=if l[k]=x then some k else zt1 x l k:=by
 rw[zt1,List.getElem?_eq_getElem h];by_cases he:l[k]=x
 ·rw[if_pos (by rw[he]),if_pos he]
 ·rw[if_neg (fun e=>he (Option.some.inj e)),if_neg he]
theorem lastTo_lt {x:Bs} {l:List Bs}: ∀ {k i:Nat},zt1 x l k=some i->i<k/\l[i]?=some x
 |0,i,h=>by cases h
 |k+1,i,h=>by
  unfold zt1 at h;split at h
  ·rename_i he;have:=Option.some.inj h;subst this;exact⟨Nat.lt_succ_self _,he⟩
  ·have:=lastTo_lt h;exact⟨by omega,this.2⟩
theorem lastTo_none {x:Bs} {l:List Bs}: ∀ {k:Nat},zt1 x l k=none↔ ∀i,i<k->l[i]?≠some x
 |0=>⟨fun _ i hi=>absurd hi (Nat.not_lt_zero i),fun _=>rfl⟩
 |k+1=>by
  unfold zt1;split
  ·rename_i he;exact⟨(fun h=>by cases h),fun h=>absurd he (h k (Nat.lt_succ_self _))⟩
  ·rename_i he;rw[lastTo_none];constructor
   ·intro h i hi;by_cases hk:i=k
    ·rw[hk];exact he
    ·exact h i (by omega)
   ·intro h i hi;exact h i (by omega)
def zq3(l:List Bs):Nat->DataW Unit
 |0=> .map []
 |k+1=>(zq3 l k).put (.string (l.getD k [])) (.lit (.int .i64 k))
def mapD(l:List Bs):DataW Unit:=zq3 l l.length
theorem isKey_str(x:Bs):WideAt.IsKeyLit (.string x):=by first|exact trivial|simp[WideAt.IsKeyLit]
theorem zz8(l:List Bs): ∀k,Tidy (zq3 l k)
 |0=>tidy_empty
 |k+1=>(zz8 l k).put (isKey_str _) _
theorem has_mapTo(x:Bs)(l:List Bs): ∀k,k<=l.length->has (zq3 l k) (.string x)=(zt1 x l k).isSome
 |0,_=>rfl
 |k+1,h=>by
  have hk:k<l.length:=h;rw[lastTo_step hk,zq3];have hg:l.getD k []=l[k]:=by simp[hk]
  rw[hg];by_cases he:l[k]=x
  ·rw[he,if_pos rfl,has_put_same (zz8 l k).isMap (isKey_str _)];rfl
  ·rw[if_neg he,has_put_other (by intro e;injection e with e;exact he e.symm),has_mapTo x l k (by omega)]
theorem zK8(l:List Bs): ∀k,k<=l.length->size (zq3 l k)<=k/\(size (zq3 l k)=k↔(l.take k).Nodup)
 |0,_=>⟨Nat.le_refl _,by rw[List.take_zero];exact⟨fun _=>List.nodup_nil,fun _=>rfl⟩⟩
 |k+1,h=>by
  have hk:k<l.length:=h;obtain⟨h1,h2⟩:=zK8 l k (by omega);have hg:l.getD k []=l[k]:=by simp[hk]
  have ht:l.take (k+1)=l.take k++[l[k]]:=List.take_succ_eq_append_getElem hk;have hm:has (zq3 l k) (.string l[k])=true↔l[k]∈l.take k:=by
   rw[has_mapTo _ _ _ (by omega)];cases hl:zt1 l[k] l k with
   |none=>
    have h3:=lastTo_none.1 hl;refine⟨(fun h=>by cases h),fun h=> ?_⟩;obtain⟨i,hi,e⟩:=List.mem_iff_getElem.1 h;rw[List.length_take]at hi;exact absurd (by rw[List.getElem?_eq_getElem (by omega),←e,List.getElem_take]) (h3 i (by omega))
   |some i=>
    obtain⟨h3,h4⟩:=lastTo_lt hl;refine⟨fun _=> ?_,fun _=>rfl⟩;refine List.mem_iff_getElem.2 ⟨i,by rw[List.length_take];omega,?_⟩;rw[List.getElem_take];rw[List.getElem?_eq_getElem (by omega)]at h4;exact Option.some.inj h4
  rw[zq3,hg,size_put (zz8 l k),ht,List.nodup_append];by_cases hh:has (zq3 l k) (.string l[k])=true
  ·rw[if_pos hh];refine⟨by omega,fun h=>by omega,fun h=> ?_⟩;exact absurd rfl (h.2.2 l[k] (hm.1 hh) l[k] (List.mem_singleton.2 rfl))
  ·rw[if_neg hh];refine⟨by omega,fun h=> ?_,fun h=> ?_⟩
   ·refine ⟨h2.1 (by omega),by simp,?_⟩;intro a ha b hb e;rw[List.mem_singleton]at hb;exact hh (hm.2 (by rw[←hb,←e];exact ha))
   ·have:=h2.2 h.1;omega
def onceB(l:List Bs):Bool:=decide (l.length<=256)&&decide (size (mapD l)=l.length)
def sayM(l:List Bs)(x y:Bs):Int:=match lastIx x l,lastIx y l with
 |some i,some j=>if i<j then -1 else if j<i then 1 else 0
 |_,_=>0
def aheadI(b l r:Int):Int×Bool:=
 if b≠0 then(if l=-b\/r=-b then(-b,true) else(b,true))
 else if l≠0/\r=-l then(0,false)
 else if l≠0 then(l,true) else(r,true)
def aheadM(base left right:List Bs)(x y:Bs):Int×Bool:=aheadI (sayM base x y) (sayM left x y) (sayM right x y)
end Go.Proofs.YtkafjblfjdpdaaaGreatDoor
namespace Go.Proofs.YtkafjblfjdpdaaaGreatDoor
inductive Vl where
 |mk (k:Int) (t:Bs) (ks:List Bs) (is:List Vl)
namespace Vl
def k:Vl->Int| .mk k _ _ _=>k
def t:Vl->Bs| .mk _ t _ _=>t
def ks:Vl->List Bs| .mk _ _ ks _=>ks
def is:Vl->List Vl| .mk _ _ _ is=>is
theorem ind {P:Vl->Prop} (h: ∀k t ks is,(∀x∈is,P x)->P (.mk k t ks is)): ∀v,P v:=fun v=>
 Vl.rec (motive_1:=P) (motive_2:=fun l=> ∀x∈l,P x) (fun k t ks is ih=>h k t ks is ih) (fun _ hx=>by cases hx)
  (fun v l hv hl x hx=>by
   rcases List.mem_cons.1 hx with rfl|hx
   ·exact hv
   ·exact hl x hx) v
instance:Inhabited Vl:=⟨.mk 0 [] [] []⟩
end Vl
inductive Vl.All (p:Vl->Prop):Vl->Prop
 |mk (k:Int) (t:Bs) (ks:List Bs) (is:List Vl) (h:p (.mk k t ks is)) (hi: ∀x∈is,Vl.All p x):Vl.All p (.mk k t ks is)
theorem Vl.All.here {p:Vl->Prop} {v:Vl} (h:v.All p):p v:=by cases h;assumption
theorem Vl.All.items {p:Vl->Prop} {k:Int} {t:Bs} {ks:List Bs} {is:List Vl} (h:(Vl.mk k t ks is).All p): ∀x∈is,x.All p:=by cases h;assumption
theorem Vl.All.mono {p q:Vl->Prop} (h: ∀v,p v->q v): ∀ {v:Vl},v.All p->v.All q:=fun {v}=>Vl.ind (P:=fun v=>v.All p->v.All q) (fun k t ks is ih hv=> .mk k t ks is (h _ hv.here) (fun x hx=>ih x hx (hv.items x hx))) v
mutual
def Vl.size:Vl->Nat
 | .mk _ _ _ is=>1+Vl.sizes is
def Vl.sizes:List Vl->Nat
 | []=>0
 |v::l=>v.size+Vl.sizes l
end
mutual
def Vl.depth:Vl->Nat
 | .mk _ _ _ is=>Vl.depths is+1
def Vl.depths:List Vl->Nat
 | []=>0
 |v::l=>max v.depth (Vl.depths l)
end
mutual
def Vl.weight:Vl->Nat
 | .mk _ _ ks is=>1+ks.length+Vl.weights is
def Vl.weights:List Vl->Nat
 | []=>0
 |v::l=>v.weight+Vl.weights l
end
mutual
def Vl.allB(p:Vl->Bool):Vl->Bool
 | .mk k t ks is=>p (.mk k t ks is)&&Vl.allsB p is
def Vl.allsB(p:Vl->Bool):List Vl->Bool
 | []=>true
 |v::l=>v.allB p&&Vl.allsB p l
end
theorem Vl.allsB_iff {p:Vl->Bool}: ∀ {l:List Vl},Vl.allsB p l=true↔ ∀x∈l,x.allB p=true
 | []=>by simp[Vl.allsB]
 |v::l=>by simp only[Vl.allsB,Bool.and_eq_true,List.mem_cons,forall_eq_or_imp,Vl.allsB_iff (l:=l)]
theorem Vl.allB_and {p q:Vl->Bool} (v:Vl):v.allB (fun x=>p x&&q x)=(v.allB p&&v.allB q):=by
 have key: ∀v:Vl,v.allB (fun x=>p x&&q x)=true↔v.allB p=true/\v.allB q=true:=Vl.ind (fun k t ks is ih=>by
  simp only[Vl.allB,Bool.and_eq_true,Vl.allsB_iff];constructor
  ·rintro ⟨⟨h1,h2⟩,h3⟩;exact⟨⟨h1,fun x hx=>((ih x hx).1 (h3 x hx)).1⟩,h2,fun x hx=>((ih x hx).1 (h3 x hx)).2⟩
  ·rintro ⟨⟨h1,h2⟩,h3,h4⟩;exact⟨⟨h1,h3⟩,fun x hx=>(ih x hx).2 ⟨h2 x hx,h4 x hx⟩⟩)
 rw[Bool.eq_iff_iff,key v,Bool.and_eq_true]
theorem Vl.sizes_le {l:List Vl}: ∀x∈l,x.size<=Vl.sizes l:=by
 induction l with
 |nil=>intro x hx;cases hx
 |cons v l ih=>
  intro x hx;simp only[Vl.sizes];rcases List.mem_cons.1 hx with rfl|hx
  ·omega
  ·have:=ih x hx;omega
theorem Vl.depths_le {l:List Vl}: ∀x∈l,x.depth<=Vl.depths l:=by
 induction l with
 |nil=>intro x hx;cases hx
 |cons v l ih=>
  intro x hx;simp only[Vl.depths];rcases List.mem_cons.1 hx with rfl|hx
  ·omega
  ·have:=ih x hx;omega
theorem Vl.size_pos(v:Vl):1<=v.size:=by cases v;simp only[Vl.size];omega
theorem Vl.depths_sizes {l:List Vl} (h: ∀x∈l,x.depth<=x.size):Vl.depths l<=Vl.sizes l:=by
 induction l with
 |nil=>exact Nat.le_refl _
 |cons v l ih=>
  have h1:=h v List.mem_cons_self;have h2:=ih (fun x hx=>h x (List.mem_cons_of_mem _ hx));simp only[Vl.sizes,Vl.depths];omega
theorem Vl.depth_size: ∀v:Vl,v.depth<=v.size:=Vl.ind (fun k t ks is ih=>by
 have:=Vl.depths_sizes ih;simp only[Vl.size,Vl.depth];omega)
theorem Vl.sizes_append(a b:List Vl):Vl.sizes (a++b)=Vl.sizes a+Vl.sizes b:=by
 induction a with
 |nil=>simp[Vl.sizes]
 |cons v l ih=>simp only[List.cons_append,Vl.sizes,ih];omega
mutual
def Vl.visits(d:Nat):Vl->List (Vl×Nat)
 | .mk k t ks is=>(.mk k t ks is,d)::Vl.visitsL (d+1) is
def Vl.visitsL(d:Nat):List Vl->List (Vl×Nat)
 | []=> []
 |v::l=>v.visits d++Vl.visitsL d l
end
theorem Vl.visitsL_length {l:List Vl} {d:Nat} (h: ∀x∈l,(x.visits d).length=x.size):(Vl.visitsL d l).length=Vl.sizes l:=by
 induction l with
 |nil=>rfl
 |cons v l ih=>
  simp only[Vl.visitsL,Vl.sizes,List.length_append,h v List.mem_cons_self,ih (fun x hx=>h x (List.mem_cons_of_mem _ hx))]
theorem Vl.visits_length: ∀(v:Vl) (d:Nat),(v.visits d).length=v.size:=Vl.ind (fun k t ks is ih d=>by
 simp only[Vl.visits,Vl.size,List.length_cons,Vl.visitsL_length (fun x hx=>ih x hx (d+1))];omega)
theorem Vl.visitsL_all {l:List Vl} {d:Nat} {q:Vl×Nat->Prop}:(∀x∈Vl.visitsL d l,q x)↔ ∀v∈l,∀x∈v.visits d,q x:=by
 induction l with
 |nil=>simp[Vl.visitsL]
 |cons v l ih=>
  simp only[Vl.visitsL,List.mem_append,or_imp,forall_and,ih,List.mem_cons];simp only[forall_eq]
theorem Vl.depths_iff {l:List Vl} {n:Nat}:Vl.depths l<=n↔ ∀x∈l,x.depth<=n:=by
 induction l with
 |nil=>simp[Vl.depths]
 |cons v l ih=>simp only[Vl.depths,List.mem_cons,forall_eq_or_imp,←ih];omega
theorem Vl.visits_all(p:Vl->Bool)(m:Nat): ∀(v:Vl) (d:Nat),(∀x∈v.visits d,x.2<=m/\p x.1=true)↔d+v.depth<=m+1/\v.allB p=true:=Vl.ind (fun k t ks is ih d=>by
 simp only[Vl.visits,List.mem_cons,forall_eq_or_imp,Vl.visitsL_all,Vl.depth,Vl.allB,Bool.and_eq_true,Vl.allsB_iff];constructor
 ·rintro ⟨⟨h1,h2⟩,h3⟩;have h4: ∀x∈is,x.depth<=m-d:=fun x hx=>by
   have:=((ih x hx (d+1)).1 (h3 x hx)).1;omega
  have:=Vl.depths_iff.2 h4;exact⟨by omega,h2,fun x hx=>((ih x hx (d+1)).1 (h3 x hx)).2⟩
 ·rintro ⟨h1,h2,h3⟩;refine⟨⟨by omega,h2⟩,fun x hx=>(ih x hx (d+1)).2 ⟨?_,h3 x hx⟩⟩;have:=Vl.depths_le x hx;omega)
def zf7(l:List (Vl×Nat)):Nat:=l.foldl (fun m x=>max m x.2) 0
theorem zI0(l:List (Vl×Nat)): ∀m,l.foldl (fun m x=>max m x.2) m=max m (zf7 l):=by
 induction l with
 |nil=>intro m;simp[zf7]
 |cons x l ih=>
  intro m;unfold zf7;simp only[List.foldl_cons];rw[ih,ih (max 0 x.2)];omega
theorem zJ5(a b:List (Vl×Nat)):zf7 (a++b)=max (zf7 a) (zf7 b):=by
 have:zf7 (a++b)=b.foldl (fun m x=>max m x.2) (zf7 a):=by unfold zf7;rw[List.foldl_append]
 rw[this,zI0]
theorem deepest_cons(x:Vl×Nat)(b:List (Vl×Nat)):zf7 (x::b)=max x.2 (zf7 b):=by
 have:zf7 (x::b)=b.foldl (fun m x=>max m x.2) (max 0 x.2):=rfl;rw[this,zI0];omega
def goV(ok:List (Vl×Nat)->Vl×Nat->Bool):List (Vl×Nat)->List (Vl×Nat)->Bool×List (Vl×Nat)
 |pre,[]=>(true,pre)
 |pre,x::l=>if ok pre x=true then goV ok (pre++[x]) l else(false,pre++[x])
theorem zB0(ok:List (Vl×Nat)->Vl×Nat->Bool): ∀(a pre b:List (Vl×Nat)),goV ok pre (a++b)=if (goV ok pre a).1=true then goV ok (goV ok pre a).2 b else goV ok pre a
 | [],pre,b=>by simp[goV]
 |x::a,pre,b=>by
  by_cases h:ok pre x=true
  ·have e:goV ok pre (x::a)=goV ok (pre++[x]) a:=by simp only[goV,if_pos h]
   have e2:goV ok pre (x::(a++b))=goV ok (pre++[x]) (a++b):=by simp only[goV,if_pos h]
   rw[List.cons_append,e,e2,zB0 ok a]
  ·have e:goV ok pre (x::a)=(false,pre++[x]):=by simp only[goV,if_neg h]
   have e2:goV ok pre (x::(a++b))=(false,pre++[x]):=by simp only[goV,if_neg h]
   rw[List.cons_append,e,e2];simp
theorem goV_yes(ok:List (Vl×Nat)->Vl×Nat->Bool): ∀(l pre:List (Vl×Nat)),(goV ok pre l).1=true->(goV ok pre l).2=pre++l
 | [],pre,_=>by simp[goV]
 |x::a,pre,h=>by
  by_cases h1:ok pre x=true
  ·have e:goV ok pre (x::a)=goV ok (pre++[x]) a:=by simp only[goV,if_pos h1]
   rw[e]at h ⊢;rw[goV_yes ok a _ h];simp
  ·have e:goV ok pre (x::a)=(false,pre++[x]):=by simp only[goV,if_neg h1]
   rw[e]at h;cases h
theorem goV_all(ok:List (Vl×Nat)->Vl×Nat->Bool): ∀(l pre:List (Vl×Nat)),(goV ok pre l).1=true↔ ∀i (h:i<l.length),ok (pre++l.take i) l[i]=true
 | [],pre=>by simp[goV]
 |x::a,pre=>by
  simp only[goV];by_cases h1:ok pre x=true
  ·rw[if_pos h1,goV_all ok a];constructor
   ·intro h i hi;cases i with
    |zero=>simpa using h1
    |succ i=>have:=h i (by simpa using hi);simpa using this
   ·intro h i hi;have:=h (i+1) (by simpa using hi);simpa using this
  ·rw[if_neg h1];constructor
   ·intro h;cases h
   ·intro h;have:=h 0 (by simp);exact absurd (by simpa using this) h1
theorem goV_fits(p:Vl->Bool)(n m:Nat)(v:Vl)(d:Nat):(goV (fun pre x=>decide (pre.length+1<=n)&&(decide (x.2<=m)&&p x.1)) [] (v.visits d)).1=(decide (v.size<=n)&&(decide (d+v.depth<=m+1)&&v.allB p)):=by
 rw[Bool.eq_iff_iff,goV_all];simp only[Bool.and_eq_true,decide_eq_true_eq,List.nil_append,List.length_take];rw[←Vl.visits_all p m v d];constructor
 ·intro h;refine⟨?_,fun x hx=> ?_⟩
  ·have h0:=v.visits_length d;have h1:=v.size_pos;have:=(h (v.size-1) (by omega)).1;omega
  ·obtain ⟨i,hi,rfl⟩:=List.mem_iff_getElem.1 hx;exact(h i hi).2
 ·rintro ⟨h1,h2⟩ i hi;have h0:=v.visits_length d;exact⟨by omega,h2 _ (List.getElem_mem hi)⟩
def lexM {α β:Type} (f:α->β->Int):List α->List β->Int
 | [],[]=>0
 | [],_::_=>-1
 |_::_,[]=>1
 |x::a,y::b=>if f x y≠0 then f x y else lexM f a b
structure Ordr {α:Type} (S:α->Prop)(f:α->α->Int):Prop where
 swap: ∀x y,S x->S y->f y x=- f x y
 tr: ∀x y z,S x->S y->S z->f x y<=0->f y z<=0->f x z<=0
theorem Ordr.strict {α:Type} {S:α->Prop} {f:α->α->Int} (h:Ordr S f)(x y z:α)(sx:S x)(sy:S y)(sz:S z)(h1:f x y<=0)(h2:f y z<=0)(h3:f x z=0):f x y=0/\f y z=0:=by
 have s1:=h.swap x y sx sy;have s2:=h.swap y z sy sz;have s3:=h.swap x z sx sz;have t1:=h.tr y z x sy sz sx h2 (by omega);have t2:=h.tr z x y sz sx sy (by omega) h1;omega
theorem lexM_swap {α:Type} {S:α->Prop} {f:α->α->Int} (h:Ordr S f): ∀(a b:List α),(∀x∈a,S x)->(∀x∈b,S x)->lexM f b a=- lexM f a b
 | [],[],_,_=>rfl
 | [],_::_,_,_=>rfl
 |_::_,[],_,_=>rfl
 |x::a,y::b,ha,hb=>by
  have h1:=h.swap x y (ha x List.mem_cons_self) (hb y List.mem_cons_self);have h2:=lexM_swap h a b (fun z hz=>ha z (List.mem_cons_of_mem _ hz)) (fun z hz=>hb z (List.mem_cons_of_mem _ hz));simp only[lexM,h1,h2];by_cases h0:f x y=0
  ·rw[if_neg (by omega),if_neg (by omega)]
  ·rw[if_pos (by omega),if_pos h0]
theorem zL8 {α:Type} {S:α->Prop} {f:α->α->Int} (h:Ordr S f): ∀(a b c:List α),(∀x∈a,S x)->(∀x∈b,S x)->(∀x∈c,S x)->
 lexM f a b<=0->lexM f b c<=0->lexM f a c<=0
 | [],[],_,_,_,_,_,h2=>h2
 | [],_::_,[],_,_,_,_,_=>by simp[lexM]
 | [],_::_,_::_,_,_,_,_,_=>by simp[lexM]
 |_::_,[],_,_,_,_,h1,_=>by simp[lexM]at h1
 |_::_,_::_,[],_,_,_,_,h2=>by simp[lexM]at h2
 |x::a,y::b,z::c,ha,hb,hc,h1,h2=>by
  have sx:=ha x List.mem_cons_self;have sy:=hb y List.mem_cons_self;have sz:=hc z List.mem_cons_self;have h3:=h.tr x y z sx sy sz;have h3':=h.strict x y z sx sy sz;have h4:=zL8 h a b c (fun z hz=>ha z (List.mem_cons_of_mem _ hz)) (fun z hz=>hb z (List.mem_cons_of_mem _ hz)) (fun z hz=>hc z (List.mem_cons_of_mem _ hz));simp only[lexM]at h1 h2 ⊢;by_cases e1:f x y=0
  ·by_cases e2:f y z=0
   ·rw[if_neg (by omega)]at h1 h2;split
    ·exact h3 (by omega) (by omega)
    ·exact h4 h1 h2
   ·rw[if_neg (by omega)]at h1;rw[if_pos e2]at h2;rw[if_pos (fun h0=>e2 (h3' (by omega) h2 h0).2)];exact h3 (by omega) h2
  ·rw[if_pos e1]at h1;have hyz:f y z<=0:=by
    by_cases e2:f y z=0
    ·omega
    ·rw[if_pos e2]at h2;exact h2
   rw[if_pos (fun h0=>e1 (h3' h1 hyz h0).1)];exact h3 h1 hyz
theorem Ordr.lex {α:Type} {S:α->Prop} {f:α->α->Int} (h:Ordr S f):Ordr (fun l=> ∀x∈l,S x) (lexM f) where
 swap a b sa sb:=lexM_swap h a b sa sb
 tr a b c sa sb sc:=zL8 h a b c sa sb sc
theorem Ordr.map {α β:Type} {S:α->Prop} {f:α->α->Int} (h:Ordr S f) {R:β->Prop} (g:β->α)(hR: ∀b,R b->S (g b)):Ordr R (fun a b=>f (g a) (g b)) where
 swap x y rx ry:=h.swap _ _ (hR x rx) (hR y ry)
 tr x y z rx ry rz:=h.tr _ _ _ (hR x rx) (hR y ry) (hR z rz)
def thenM(a b:Int):Int:=if a≠0 then a else b
theorem Ordr.then {α:Type} {S:α->Prop} {f g:α->α->Int} (h:Ordr S f)(h':Ordr S g):Ordr S (fun x y=>thenM (f x y) (g x y)) where
 swap x y sx sy:=by
  have:=h.swap x y sx sy;have:=h'.swap x y sx sy;unfold thenM;split<;>split<;>omega
 tr x y z sx sy sz:=by
  intro h1 h2;have a1:=h.tr x y z sx sy sz;have a2:=h.strict x y z sx sy sz;have b1:=h'.tr x y z sx sy sz;unfold thenM at *;by_cases e1:f x y=0
  ·by_cases e2:f y z=0
   ·rw[if_neg (by omega)]at h1 h2;have s1:=h.swap x y sx sy;have s2:=h.swap y z sy sz;have s3:=h.swap x z sx sz;have t1:=h.tr z y x sz sy sx (by omega) (by omega);have:=a1 (by omega) (by omega);rw[if_neg (by omega)];exact b1 h1 h2
   ·rw[if_neg (by omega)]at h1;rw[if_pos e2]at h2;rw[if_pos (fun h0=>e2 (a2 (by omega) h2 h0).2)];exact a1 (by omega) h2
  ·rw[if_pos e1]at h1;have hyz:f y z<=0:=by
    by_cases e2:f y z=0
    ·omega
    ·rw[if_pos e2]at h2;exact h2
   rw[if_pos (fun h0=>e1 (a2 h1 hyz h0).1)];exact a1 h1 hyz
def keyAt(ks:List Bs)(i:Nat):Bs:=ks.getD i []
mutual
def remV(ord:Vl->List Nat):Vl->Vl
 | .mk k t ks is=> .mk k t (if k=6 then(ord (.mk k t ks is)).map (keyAt ks) else []) ((ord (.mk k t ks is)).map (fun i=>(remL ord is).getD i default))
def remL(ord:Vl->List Nat):List Vl->List Vl
 | []=> []
 |v::l=>remV ord v::remL ord l
end
def ins {β:Type} (f:Bs->Bs->Int)(p:Bs×β):List (Bs×β)->List (Bs×β)
 | []=> [p]
 |q::l=>if f p.1 q.1<=0 then p::q::l else q::ins f p l
def isort {β:Type} (f:Bs->Bs->Int):List (Bs×β)->List (Bs×β)
 | []=> []
 |p::l=>ins f p (isort f l)
end Go.Proofs.YtkafjblfjdpdaaaGreatDoor
namespace Go.Proofs.YtkafjblfjdpdaaaGreatDoor
open Go.ChangeShapes Go.WideShapes Go.ChangeAt Go.RowKit
theorem zn5 {w:World} {a:Addr} {v:Value} (h:w.cell? a=some v):a.block<w.heap.size:=by
 by_cases hb:a.block<w.heap.size
 ·exact hb
 ·unfold World.cell? at h;rw[Array.getElem?_eq_none (by omega)]at h;cases h
def StrsIn(w:World)(o:Option Addr)(l:List Bs):Prop:= ∀i (h:i<l.length),∃b f,o=some ⟨b,f,none⟩/\w.cell? ⟨b,f+i,none⟩=some (.string (st l[i]))
theorem StrsIn.grow {w w':World} {o:Option Addr} {l:List Bs} (h:StrsIn w o l)(hb:Below w.heap.size w w'):StrsIn w' o l:=fun i hi=>by
 obtain⟨b,f,h1,h2⟩:=h i hi;exact⟨b,f,h1,(hb.cell (p:=⟨b,f+i,none⟩) (zn5 h2)).trans h2⟩
theorem StrsIn.nil(w:World)(o:Option Addr):StrsIn w o []:=fun i hi=>absurd hi (Nat.not_lt_zero i)
section
variable {H:Type} {enc:TypeId×Value->H} {P:Program} {w:World} {base:Nat} {spare:Nat->Bool} {held:Bool}
end
structure SRow where
 o:Option Addr
 cap:Nat
 l:List Bs
def SRow.v(r:SRow):Value:= .slice r.o r.l.length r.cap
structure SRow.ok(w:World)(r:SRow):Prop where
 le:r.l.length<=r.cap
 cp:r.cap<=maxLen
 rd:StrsIn w r.o r.l
theorem SRow.ok.grow {w w':World} {r:SRow} (h:r.ok w)(hb:Below w.heap.size w w'):r.ok w':=⟨h.le,h.cp,h.rd.grow hb⟩
def RowsIn(w:World)(o:Option Addr)(rs:List SRow):Prop:= ∀i (h:i<rs.length),(∃b f,o=some ⟨b,f,none⟩/\w.cell? ⟨b,f+i,none⟩=some rs[i].v)/\rs[i].ok w
theorem RowsIn.grow {w w':World} {o:Option Addr} {rs:List SRow} (h:RowsIn w o rs)(hb:Below w.heap.size w w'):RowsIn w' o rs:=fun i hi=>by
 obtain⟨⟨b,f,h1,h2⟩,h3⟩:=h i hi;exact⟨⟨b,f,h1,(hb.cell (p:=⟨b,f+i,none⟩) (zn5 h2)).trans h2⟩,h3.grow hb⟩
inductive Vt where
 |mk (k:Int) (t:Bs) (ks:SRow) (o:Option Addr) (c:Nat) (is:List Vt)
namespace Vt
def k:Vt->Int| .mk k _ _ _ _ _=>k
def t:Vt->Bs| .mk _ t _ _ _ _=>t
def ks:Vt->SRow| .mk _ _ ks _ _ _=>ks
def o:Vt->Option Addr| .mk _ _ _ o _ _=>o
def c:Vt->Nat| .mk _ _ _ _ c _=>c
def is:Vt->List Vt| .mk _ _ _ _ _ is=>is
theorem ind {P:Vt->Prop} (h: ∀k t ks o c is,(∀x∈is,P x)->P (.mk k t ks o c is)): ∀v,P v:=fun v=>
 Vt.rec (motive_1:=P) (motive_2:=fun l=> ∀x∈l,P x) (fun k t ks o c is ih=>h k t ks o c is ih) (fun _ hx=>by cases hx)
  (fun v l hv hl x hx=>by
   rcases List.mem_cons.1 hx with rfl|hx
   ·exact hv
   ·exact hl x hx) v
instance:Inhabited Vt:=⟨.mk 0 [] ⟨none,0,[]⟩ none 0 []⟩
def row(x:Vt):Value:= .slice x.o x.is.length x.c
def v(x:Vt):Value:= .agg #[.int .i64 x.k,.string (st x.t),x.ks.v,x.row]
theorem v_mk'(k:Int)(t:Bs)(ko:Option Addr)(kc:Nat)(kl:List Bs)(o:Option Addr)(c:Nat)(is:List Vt):(Vt.mk k t ⟨ko,kc,kl⟩ o c is).v= .agg #[.int .i64 k,.string (st t),.slice ko kl.length kc,.slice o is.length c]:=rfl
end Vt
mutual
def Vt.m:Vt->Vl
 | .mk k t ks _ _ is=> .mk k t ks.l (Vt.ms is)
def Vt.ms:List Vt->List Vl
 | []=> []
 |x::l=>x.m::Vt.ms l
end
theorem Vt.ms_map: ∀l:List Vt,Vt.ms l=l.map Vt.m
 | []=>rfl
 |x::l=>by simp only[Vt.ms,List.map_cons,Vt.ms_map l]
theorem Vt.m_mk(k:Int)(t:Bs)(ks:SRow)(o:Option Addr)(c:Nat)(is:List Vt):(Vt.mk k t ks o c is).m= .mk k t ks.l (is.map Vt.m):=by simp only[Vt.m,Vt.ms_map]
mutual
def Vt.rows:Vt->List Nat
 | .mk _ _ _ o c is=>(Value.slice o is.length c).ownBlock.toList++Vt.rowss is
def Vt.rowss:List Vt->List Nat
 | []=> []
 |x::l=>x.rows++Vt.rowss l
end
theorem Vt.rowss_map: ∀l:List Vt,Vt.rowss l=l.flatMap Vt.rows
 | []=>rfl
 |x::l=>by rw[Vt.rowss,List.flatMap_cons,Vt.rowss_map l]
theorem Vt.rows_mk(k:Int)(t:Bs)(ks:SRow)(o:Option Addr)(c:Nat)(is:List Vt):(Vt.mk k t ks o c is).rows=(Value.slice o is.length c).ownBlock.toList++is.flatMap Vt.rows:=by rw[Vt.rows,Vt.rowss_map]
structure ItemAt(w:World)(b p:Nat)(x:Vt):Prop where
 c0:w.cell? ⟨b,p,none⟩=some (.int .i64 x.k)
 c1:w.cell? ⟨b,p+1,none⟩=some (.string (st x.t))
 c2:w.cell? ⟨b,p+2,none⟩=some x.ks.v
 c3:w.cell? ⟨b,p+3,none⟩=some x.row
inductive Vt.Ok (w:World):Vt->Prop
 |mk (k:Int) (t:Bs) (ks:SRow) (o:Option Addr) (c:Nat) (is:List Vt) (hk:-9223372036854775808<=k/\k<=9223372036854775807) (ht:t.length<=maxLen) (hks:ks.ok w) (hkt: ∀x∈ks.l,x.length<=maxLen)
  (hl:is.length<=c) (hc:c<=maxLen) (hat: ∀i (h:i<is.length),∃b f,o=some ⟨b,f,none⟩/\ItemAt w b (f+i*4) is[i]) (hi: ∀i (h:i<is.length),Vt.Ok w is[i]):Vt.Ok w (.mk k t ks o c is)
section
variable {w w':World} {k:Int} {t:Bs} {ks:SRow} {o:Option Addr} {c:Nat} {is:List Vt} {x:Vt}
theorem Vt.Ok.hk(h:Vt.Ok w (.mk k t ks o c is)):-9223372036854775808<=k/\k<=9223372036854775807:=by cases h;assumption
theorem Vt.Ok.ht(h:Vt.Ok w (.mk k t ks o c is)):t.length<=maxLen:=by cases h;assumption
theorem Vt.Ok.hks(h:Vt.Ok w (.mk k t ks o c is)):ks.ok w:=by cases h;assumption
theorem Vt.Ok.hkt(h:Vt.Ok w (.mk k t ks o c is)): ∀x∈ks.l,x.length<=maxLen:=by cases h;assumption
theorem Vt.Ok.hl(h:Vt.Ok w (.mk k t ks o c is)):is.length<=c:=by cases h;assumption
theorem Vt.Ok.hc(h:Vt.Ok w (.mk k t ks o c is)):c<=maxLen:=by cases h;assumption
theorem Vt.Ok.at_(h:Vt.Ok w (.mk k t ks o c is))(i:Nat)(hi:i<is.length): ∃b f,o=some ⟨b,f,none⟩/\ItemAt w b (f+i*4) is[i]:=by cases h with|mk _ _ _ _ _ _ _ _ _ _ _ _ hat _=>exact hat i hi
theorem Vt.Ok.item(h:Vt.Ok w (.mk k t ks o c is))(i:Nat)(hi:i<is.length):Vt.Ok w is[i]:=by cases h with|mk _ _ _ _ _ _ _ _ _ _ _ _ _ hi'=>exact hi' i hi
theorem Vt.Ok.mem(h:Vt.Ok w (.mk k t ks o c is)): ∀x∈is,Vt.Ok w x:=fun x hx=>by
 obtain⟨i,hi,rfl⟩:=List.mem_iff_getElem.1 hx;exact h.item i hi
theorem ItemAt.grow {b p:Nat} (h:ItemAt w b p x)(hb:Below w.heap.size w w'):ItemAt w' b p x:=
 ⟨(hb.cell (p:=⟨b,p,none⟩) (zn5 h.c0)).trans h.c0,(hb.cell (p:=⟨b,p+1,none⟩) (zn5 h.c1)).trans h.c1,(hb.cell (p:=⟨b,p+2,none⟩) (zn5 h.c2)).trans h.c2,(hb.cell (p:=⟨b,p+3,none⟩) (zn5 h.c3)).trans h.c3⟩
theorem Vt.Ok.grow(h:Vt.Ok w x)(hb:Below w.heap.size w w'):Vt.Ok w' x:=by
 induction h with
 |mk k t ks o c is hk ht hks hkt hl hc hat _ ih=>
  refine .mk k t ks o c is hk ht (hks.grow hb) hkt hl hc (fun i hi=> ?_) ih;obtain⟨b,f,h1,h2⟩:=hat i hi;exact⟨b,f,h1,h2.grow hb⟩
end
def vtC(l:List Vt):List Value:=l.flatMap fun x=> [.int .i64 x.k,.string (st x.t),x.ks.v,x.row]
theorem zC9(l:List Vt)(x:Vt):vtC (l++[x])=vtC l++[.int .i64 x.k,.string (st x.t),x.ks.v,x.row]:=by unfold vtC;simp
theorem vtC_at(l:List Vt): ∀(i:Nat) (h:i<l.length),(vtC l)[i*4]?=some (.int .i64 l[i].k)/\(vtC l)[i*4+1]?=some (.string (st l[i].t))/\(vtC l)[i*4+2]?=some l[i].ks.v/\(vtC l)[i*4+3]?=some l[i].row:=by
 induction l with
 |nil=>intro i h;exact absurd h (by simp)
 |cons x l ih=>
  intro i h;unfold vtC at ih ⊢;rw[List.flatMap_cons];cases i with
  |zero=>exact⟨rfl,rfl,rfl,rfl⟩
  |succ i=>
   have:=ih i (by simpa using h);rw[show (i+1)*4=i*4+1+1+1+1 by omega];simpa using this
def strC(l:List Bs):List Value:=l.map fun x=> .string (st x)
inductive Vt.Own (tV tS:TypeId) (B:Nat) (S:Nat->Prop) (w:World):Vt->Prop
 |mk (k:Int) (t:Bs) (ks:SRow) (o:Option Addr) (c:Nat) (is:List Vt) (hks:w.ownsRow B tS 1 ks.v ks.l.length (strC ks.l)) (hkb: ∀g,ks.v.ownBlock=some g->S g)
  (hrow:w.ownsRow B tV 4 (.slice o is.length c) is.length (vtC is)) (hrb: ∀g,(Value.slice o is.length c).ownBlock=some g->S g)
  (hi: ∀i (h:i<is.length),Vt.Own tV tS B S w is[i]):Vt.Own tV tS B S w (.mk k t ks o c is)
theorem Vt.Own.kept {tV tS:TypeId} {B:Nat} {S:Nat->Prop} {w w':World} {x:Vt} {row:Option Nat} (h:Vt.Own tV tS B S w x)(hg:w.grownBy w' row)(hr: ∀g,row=some g-> ¬S g):Vt.Own tV tS B S w' x:=by
 induction h with
 |mk k t ks o c is hks hkb hrow hrb _ ih=>
  refine .mk k t ks o c is (hks.kept hg ?_) hkb (hrow.kept hg ?_) hrb ih
  ·cases hv:ks.v.ownBlock with
   |none=>exact .inl rfl
   |some g=>exact .inr (fun e=>hr g e.symm (hkb g hv))
  ·cases hv:(Value.slice o is.length c).ownBlock with
   |none=>exact .inl rfl
   |some g=>exact .inr (fun e=>hr g e.symm (hrb g hv))
theorem Vt.Own.kind {tV tS:TypeId} {B:Nat} {S S':Nat->Prop} {w:World} {x:Vt} (h:Vt.Own tV tS B S w x)(hs: ∀g,S g->S' g):Vt.Own tV tS B S' w x:=by
 induction h with
 |mk k t ks o c is hks hkb hrow hrb _ ih=>exact .mk k t ks o c is hks (fun g hg=>hs g (hkb g hg)) hrow (fun g hg=>hs g (hrb g hg)) ih
theorem Vt.Own.rowsS {tV tS:TypeId} {B:Nat} {S:Nat->Prop} {w:World} {x:Vt} (h:Vt.Own tV tS B S w x): ∀g∈x.rows,S g:=by
 induction h with
 |mk k t ks o c is hks hkb hrow hrb _ ih=>
  intro g hg;rw[Vt.rows_mk]at hg;rcases List.mem_append.1 hg with hg|hg
  ·exact hrb g (by simpa using hg)
  ·obtain ⟨y,hy,hg⟩:=List.mem_flatMap.1 hg;obtain⟨i,hi,rfl⟩:=List.mem_iff_getElem.1 hy;exact ih i hi g hg
theorem zb9 {w w':World} (hb:Below w.heap.size w w')(row:Option Nat):w.grownBy w' row:=⟨hb.os,hb.tape,hb.output,hb.size,fun k hk _=>hb.block k hk⟩
theorem Vt.Own.grow {tV tS:TypeId} {B:Nat} {S:Nat->Prop} {w w':World} {x:Vt} (h:Vt.Own tV tS B S w x)(hb:Below w.heap.size w w'):Vt.Own tV tS B S w' x:=
 h.kept (zb9 hb none) (fun g hg=>by cases hg)
theorem zP0 {w:World} {B e size n c:Nat} {o:Option Addr} {xs:List Value} (h:w.ownsRow B e size (.slice o n c) n xs):n<=c/\c<=maxLen:=by
 rcases h.2 with ⟨h1,h0⟩|⟨g,cap,cur,hv,_,_,hc,hm,_⟩
 ·injection h1 with _ _ e;subst e;exact⟨by omega,Nat.zero_le _⟩
 ·injection hv with _ _ e;subst e;exact⟨hc,hm⟩
theorem own_keys {w:World} {B e:Nat} {ks:SRow} (h:w.ownsRow B e 1 ks.v ks.l.length (strC ks.l)):ks.ok w:=by
 obtain⟨o,c,l⟩:=ks;unfold SRow.v at h;simp only at h;obtain⟨h1,h2⟩:=zP0 h;refine⟨h1,h2,fun i hi=> ?_⟩;simp only at hi ⊢;rcases h.2 with ⟨h1,h0⟩|⟨g,cap,cur,hv,_,_,_,_,_⟩
 ·omega
 ·injection hv with ho
  have hc:=h.cells (g:=g) (by rw[ho];rfl) i (.string (st l[i])) (by unfold strC;simp[hi]);rw[Addr.add_lit,Nat.zero_add]at hc;exact⟨g,0,ho,by rw[Nat.zero_add];exact hc⟩
structure Vl.Rng(v:Vl):Prop where
 hk:-9223372036854775808<=v.k/\v.k<=9223372036854775807
 ht:v.t.length<=maxLen
 hkt: ∀x∈v.ks,x.length<=maxLen
theorem Vt.Ok.rng {w:World} {x:Vt} (h:Vt.Ok w x):x.m.All Vl.Rng:=by
 induction h with
 |mk k t ks o c is hk ht hks hkt hl hc hat _ ih=>
  rw[Vt.m_mk];refine .mk _ _ _ _ ⟨hk,ht,hkt⟩ (fun y hy=> ?_);obtain⟨z,hz,rfl⟩:=List.mem_map.1 hy;obtain⟨i,hi,rfl⟩:=List.mem_iff_getElem.1 hz;exact ih i hi
theorem Vt.Own.ok {tV tS:TypeId} {B:Nat} {S:Nat->Prop} {w:World} {x:Vt} (h:Vt.Own tV tS B S w x)(hr:x.m.All Vl.Rng):Vt.Ok w x:=by
 induction h with
 |mk k t ks o c is hks hkb hrow hrb _ ih=>
  rw[Vt.m_mk]at hr;cases hr with
  |mk _ _ _ _ hr hri=>
   obtain⟨h1,h2⟩:=zP0 hrow;refine .mk k t ks o c is hr.hk hr.ht (own_keys hks) hr.hkt h1 h2 (fun i hi=> ?_) (fun i hi=>ih i hi (hri _ (List.mem_map.2 ⟨_,List.getElem_mem hi,rfl⟩)));rcases hrow.2 with ⟨h1,h0⟩|⟨g,cap,cur,hv,_,_,_,_,_⟩
   ·omega
   ·injection hv with ho
    obtain⟨q0,q1,q2,q3⟩:=vtC_at is i hi;have hc0:=hrow.cells (g:=g) (by rw[ho];rfl) (i*4) _ q0;have hc1:=hrow.cells (g:=g) (by rw[ho];rfl) (i*4+1) _ q1;have hc2:=hrow.cells (g:=g) (by rw[ho];rfl) (i*4+2) _ q2;have hc3:=hrow.cells (g:=g) (by rw[ho];rfl) (i*4+3) _ q3;rw[Addr.add_lit,Nat.zero_add]at hc0 hc1 hc2 hc3;exact⟨g,0,ho,⟨by rw[Nat.zero_add];exact hc0,by rw[Nat.zero_add];exact hc1,by rw[Nat.zero_add];exact hc2,by rw[Nat.zero_add];exact hc3⟩⟩
end Go.Proofs.YtkafjblfjdpdaaaGreatDoor
namespace Go.Proofs.YtkafjblfjdpdaaaGreatDoor
def zN6(x:Bs):Bool:=x==[42]
def isRow(x:Bs):Bool:=x==[42,42]
def orScan(a:Bool):List Bool->List Bool
 | []=> []
 |x::l=>(a||x)::orScan (a||x) l
def andRow(x:Bs):List Bool->List Bs->List Bool
 |f::fs,y::ys=>(f&&(zN6 x||x==y))::andRow x fs ys
 |_,_=> []
def rowM(path:List Bs)(x:Bs)(fits:List Bool):List Bool:=if isRow x=true then orScan false fits else false::andRow x fits path
def fit0(n:Nat):List Bool:=true::List.replicate n false
def fitsM(path:List Bs)(p:List Bs):List Bool:=p.foldl (fun f x=>rowM path x f) (fit0 path.length)
def matchM(p path:List Bs):Bool:=if 200<p.length\/200<path.length then false else(fitsM path p).getD path.length false
def Glob:List Bs->List Bs->Prop
 | [],l=>l=[]
 |x::p,l=>if isRow x=true then∃k,k<=l.length/\Glob p (l.drop k) else∃y l',l=y::l'/\(zN6 x=true\/x=y)/\Glob p l'
theorem Glob.app: ∀ {p q a b:List Bs},Glob p a->Glob q b->Glob (p++q) (a++b)
 | [],q,a,b,h,h'=>by cases (show a=[] from h);exact h'
 |x::p,q,a,b,h,h'=>by
  unfold Glob at h;show Glob (x::(p++q)) (a++b);unfold Glob;by_cases hx:isRow x=true
  ·rw[if_pos hx]at h ⊢;obtain⟨k,hk,hg⟩:=h;refine⟨k,by rw[List.length_append];omega,?_⟩;rw[List.drop_append_of_le_length hk];exact hg.app h'
  ·rw[if_neg hx]at h ⊢;obtain⟨y,l',rfl,hy,hg⟩:=h;exact⟨y,l'++b,rfl,hy,hg.app h'⟩
theorem Glob.all(a:List Bs):Glob [[42,42]] a:=by
 unfold Glob;rw[if_pos (by decide)];exact⟨a.length,Nat.le_refl _,by simp[Glob]⟩
theorem Glob.plain: ∀ {p:List Bs} (l:List Bs),(∀x∈p,x≠ [42]/\x≠ [42,42])->(Glob p l↔p=l)
 | [],l,_=>by unfold Glob;exact⟨fun h=>h.symm,fun h=>h.symm⟩
 |x::p,l,h=>by
  obtain⟨h1,h2⟩:=h x List.mem_cons_self;have ih:=fun l=>Glob.plain (p:=p) l (fun y hy=>h y (List.mem_cons_of_mem _ hy))
  unfold Glob;rw[if_neg (by unfold isRow;simpa using h2)];have h3: ¬zN6 x=true:=by unfold zN6;simpa using h1
  constructor
  ·rintro ⟨y,l',rfl,hy,hg⟩;rw[(ih l').1 hg,hy.resolve_left h3]
  ·intro e;subst e;exact⟨x,p,rfl,.inr rfl,(ih p).2 rfl⟩
end Go.Proofs.YtkafjblfjdpdaaaGreatDoor
namespace Go.Proofs.YtkafjblfjdpdaaaGreatDoor
def psub(c:UInt8)(new l:Bs):Bs:=l.flatMap fun b=>if b=c then new else [b]
def pesc(x:Bs):Bs:=psub 47 [126,49] (psub 126 [126,48] x)
def ptext(p:List Bs):Bs:=p.flatMap fun x=>47::pesc x
def un2(d c:UInt8):Bs->Bs
 | []=> []
 | [b]=> [b]
 |a::b::r=>if a=126/\b=d then c::un2 d c r else a::un2 d c (b::r)
def unesc(x:Bs):Bs:=un2 48 126 (un2 49 47 x)
def tildeOk:Bs->Bool
 | []=>true
 | [b]=>b !=126
 |a::b::r=>(a !=126||b==48||b==49)&&tildeOk (b::r)
def cutAt(c:UInt8):Bs->List Bs
 | []=> [[]]
 |b::r=>if b=c then []::cutAt c r else match cutAt c r with
  | []=> [[b]]
  |x::l=>(b::x)::l
end Go.Proofs.YtkafjblfjdpdaaaGreatDoor
