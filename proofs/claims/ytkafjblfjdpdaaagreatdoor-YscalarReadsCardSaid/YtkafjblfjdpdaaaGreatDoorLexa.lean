/-
  PLAIN MATHEMATICS: the tokens of a text of JSON.
  PLAIN MATHEMATICS: a token that stands elsewhere is that token.
  PLAIN MATHEMATICS: rows of tokens: they are the text, each is itself alone, and of two texts with a comma between.
  WALKS: lex.sign, lex.word, lex.run.
-/
import Derived.Test.YtkafjblfjdpdaaaGreatDoorUna
set_option maxHeartbeats 400000
set_option maxRecDepth 1000000
namespace Go.Proofs.YtkafjblfjdpdaaaGreatDoor
open Go.RowKit
def zf1(c:Nat):Bool:=c==32||c==9||c==10||c==13
def zj2(c:Nat):Bool:=c==45||c==43||c==46||(decide (48<=c)&&decide (c<=57))||c==101||c==69
def zi2(c:Nat):Bool:=decide (97<=c)&&decide (c<=122)
def runM(s:ByteArray)(q:Nat->Bool):Nat->Nat->Nat
 |0,p=>p
 |f+1,p=>if p<s.size/\q (byt s p)=true then runM s q f (p+1) else p
def zc6(s:ByteArray)(q:Nat->Bool)(p:Nat):Nat:=runM s q (s.size-p) p
theorem runM_step {s:ByteArray} {q:Nat->Bool} {f p:Nat} (h:p<s.size)(h1:q (byt s p)=true):runM s q (f+1) p=runM s q f (p+1):=by rw[runM,if_pos ⟨h,h1⟩]
theorem zu3 {s:ByteArray} {q:Nat->Bool} {p:Nat} (h:p<s.size)(h1:q (byt s p)=true):zc6 s q p=zc6 s q (p+1):=by
 unfold zc6;rw[show s.size-p=(s.size-(p+1))+1 by omega,runM_step h h1]
theorem zK9 {s:ByteArray} {q:Nat->Bool} {p:Nat} (h1:q (byt s p)=false):zc6 s q p=p:=by
 unfold zc6;cases s.size-p with
 |zero=>rfl
 |succ f=>rw[runM,if_neg (fun h=>by rw[h1]at h;exact absurd h.2 (by decide))]
theorem runTo_end {s:ByteArray} {q:Nat->Bool} {p:Nat} (h:s.size<=p):zc6 s q p=p:=by
 unfold zc6;rw[show s.size-p=0 by omega];rfl
theorem runM_bd(s:ByteArray)(q:Nat->Bool): ∀f p,p<=runM s q f p/\(p<=s.size->runM s q f p<=s.size)/\(∀j,p<=j->j<runM s q f p->q (byt s j)=true)
 |0,p=>⟨Nat.le_refl _,fun h=>h,fun j h1 h2=>by unfold runM at h2;omega⟩
 |f+1,p=>by
  unfold runM;split
  ·rename_i h;obtain⟨h1,h2,h3⟩:=runM_bd s q f (p+1);refine⟨by omega,fun _=>h2 h.1,fun j k1 k2=> ?_⟩;by_cases hj:j=p
   ·rw[hj];exact h.2
   ·exact h3 j (by omega) k2
  ·exact ⟨Nat.le_refl _,fun h=>h,fun j h1 h2=>by omega⟩
theorem zp0(s:ByteArray)(q:Nat->Bool)(p:Nat):p<=zc6 s q p:=(runM_bd s q _ p).1
theorem zr3(s:ByteArray)(q:Nat->Bool)(p:Nat)(h:p<=s.size):zc6 s q p<=s.size:=(runM_bd s q _ p).2.1 h
def zn8(c:Nat):Nat:=if c=123 then 2 else if c=125 then 3 else if c=91 then 4 else if c=93 then 5 else if c=44 then 6 else if c=58 then 7 else 0
def zp4(l:Bs):Nat:=if l=[116,114,117,101] then 10 else if l=[102,97,108,115,101] then 11 else if l=[110,117,108,108] then 12 else 0
def sub(s:ByteArray)(a b:Nat):Bs:=(s.extract a b).data.toList
def oneM(s:ByteArray)(p:Nat):Nat×Nat×Int:=
 let c:=byt s p
 if zn8 c≠0 then(zn8 c,p+1,0)
 else if zf1 c=true then(1,zc6 s zf1 p,0)
 else if c=34 then(8,(zb7 s p).1,(zb7 s p).2.1)
 else if c=45\/48<=c/\c<=57 then
  (if (zb3 (sub s p (zc6 s zj2 p))).2≠0 then(0,p,(zb3 (sub s p (zc6 s zj2 p))).2) else(9,zc6 s zj2 p,0))
 else if zp4 (sub s p (zc6 s zi2 p))≠0 then(zp4 (sub s p (zc6 s zi2 p)),zc6 s zi2 p,0) else(0,p,2)
def zo9(s:ByteArray):Nat->Nat->List (Nat×Nat×Nat)->List (Nat×Nat×Nat)×Nat×Int
 |0,p,acc=>(acc,p,0)
 |f+1,p,acc=>
  if p<s.size then
   (if (oneM s p).2.2≠0 then(acc,(oneM s p).2.1,(oneM s p).2.2) else zo9 s f (oneM s p).2.1 (acc++[((oneM s p).1,p,(oneM s p).2.1)]))
  else(acc,p,0)
def zv3(s:ByteArray):List (Nat×Nat×Nat)×Nat×Int:=zo9 s s.size 0 []
theorem zs8(s:ByteArray): ∀(f p:Nat) (acc:List Nat),p<=s.size->p<=(zc5 s f p acc).1/\(zc5 s f p acc).1<=s.size/\((zc5 s f p acc).2.1=0->p<(zc5 s f p acc).1)
 |0,p,acc,h=>⟨h,Nat.le_refl _,fun h=>by unfold zc5 at h;cases h⟩
 |f+1,p,acc,h=>by
  unfold zc5;by_cases hp:p<s.size
  ·rw[if_pos hp];by_cases h34:byt s p=34
   ·rw[if_pos h34];exact⟨by simp only;omega,hp,fun _=>by simp only;omega⟩
   ·rw[if_neg h34];cases hpm:zf2 s p with
    |none=>exact⟨Nat.le_refl _,Nat.le_of_lt hp,fun h=>by cases h⟩
    |some x=>
     obtain⟨r,n⟩:=x;have hbd:=zn3 hp hpm;obtain⟨a1,a2,a3⟩:=zs8 s f (p+n) (acc++[r]) hbd.2.2.2.1;exact⟨by simp only;omega,a2,fun h=>by have:=a3 h;simp only;omega⟩
  ·rw[if_neg hp];exact⟨h,Nat.le_refl _,fun h=>by cases h⟩
theorem scanM_ge(s:ByteArray)(p:Nat)(h:p<=s.size):p<=(zb7 s p).1/\(zb7 s p).1<=s.size/\((zb7 s p).2.1=0->p<(zb7 s p).1):=by
 unfold zb7;split
 ·rename_i hc;obtain⟨a1,a2,a3⟩:=zs8 s s.size (p+1) [] hc.1;exact⟨by omega,a2,fun h=>by have:=a3 h;omega⟩
 ·exact ⟨Nat.le_refl _,h,fun h=>by cases h⟩
theorem wordM_len {l:Bs} (h:zp4 l≠0):0<l.length:=by
 unfold zp4 at h;split at h
 ·subst l;decide
 ·split at h
  ·subst l;decide
  ·split at h
   ·subst l;decide
   ·exact absurd rfl h
theorem sub_len(s:ByteArray)(a b:Nat)(h:b<=s.size):(sub s a b).length=b-a:=by
 unfold sub;rw[Array.length_toList];show(s.extract a b).size=_;rw[ByteArray.size_extract];omega
theorem signM_bd(c:Nat):zn8 c<=7/\(zn8 c≠0->2<=zn8 c):=by
 unfold zn8
 repeat' split
 all_goals (exact⟨by omega,fun _=>by omega⟩)
theorem wordM_bd(l:Bs):zp4 l<=12/\(zp4 l≠0->10<=zp4 l):=by
 unfold zp4
 repeat' split
 all_goals (exact⟨by omega,fun _=>by omega⟩)
theorem zA4(s:ByteArray)(p:Nat)(h:p<s.size):p<=(oneM s p).2.1/\(oneM s p).2.1<=s.size/\(oneM s p).1<=12/\((oneM s p).2.2=0->p<(oneM s p).2.1/\1<=(oneM s p).1):=by
 unfold oneM;have hb:=signM_bd (byt s p);simp only;split
 ·rename_i hc;exact⟨by simp only;omega,h,by simp only;omega,fun _=>⟨by simp only;omega,by simp only;omega⟩⟩
 ·split
  ·rename_i hc;have h1:=zu3 h hc;have h2:=zp0 s zf1 (p+1);have h3:=zr3 s zf1 p (by omega);exact⟨by simp only;omega,h3,by simp only;omega,fun _=>⟨by simp only;omega,by simp only;omega⟩⟩
  ·split
   ·obtain ⟨a1,a2,a3⟩:=scanM_ge s p (by omega);exact⟨a1,a2,by simp only;omega,fun h=>⟨a3 h,by simp only;omega⟩⟩
   ·split
    ·rename_i hc;have hn:zj2 (byt s p)=true:=by
      unfold zj2;simp only[Bool.or_eq_true,Bool.and_eq_true,beq_iff_eq,decide_eq_true_eq];omega
     have h1:=zu3 h hn;have h2:=zp0 s zj2 (p+1);have h3:=zr3 s zj2 p (by omega);split
     ·rename_i he;exact⟨Nat.le_refl _,by simp only;omega,by simp only;omega,fun h=>absurd h he⟩
     ·exact ⟨by simp only;omega,h3,by simp only;omega,fun _=>⟨by simp only;omega,by simp only;omega⟩⟩
    ·have h2:=zp0 s zi2 p;have h3:=zr3 s zi2 p (by omega);have hw:=wordM_bd (sub s p (zc6 s zi2 p));split
     ·rename_i hc;have h4:=wordM_len hc;rw[sub_len s p _ h3]at h4;exact⟨h2,h3,hw.1,fun _=>⟨by simp only;omega,by simp only;omega⟩⟩
     ·exact ⟨Nat.le_refl _,by simp only;omega,by simp only;omega,fun h=>by cases h⟩
theorem uni_same {s t:ByteArray} {p q m:Nat} (h:uni s p=some m)(hq':q+6<=t.size)(he: ∀j,j<6->byt t (q+j)=byt s (p+j)):uni t q=some m:=by
 unfold uni at h ⊢;have h0:=he 0 (by omega);rw[Nat.add_zero,Nat.add_zero]at h0;rw[h0,he 1 (by omega),he 2 (by omega),he 3 (by omega),he 4 (by omega),he 5 (by omega)];split at h
 ·rename_i hc;rw[if_pos ⟨hq',hc.2⟩];exact h
 ·cases h
theorem escU_same {s t:ByteArray} {p q r n:Nat} (h:escU s p=some (r,n))(hq':q+n<=t.size)(he: ∀j,j<n->byt t (q+j)=byt s (p+j)):escU t q=some (r,n):=by
 have hbd:=(escU_bd h).2.1;unfold escU at h ⊢;cases hu:uni s p with
 |none=>rw[hu]at h;cases h
 |some m=>
  rw[hu]at h;rw[uni_same hu (by omega) (fun j hj=>he j (by omega))];simp only at h ⊢;split at h
  ·cases h
  ·rename_i c1;rw[if_neg c1];split at h
   ·rename_i c2;rw[if_pos c2];exact h
   ·rename_i c2;rw[if_neg c2];cases hu2:uni s (p+6) with
    |none=>rw[hu2]at h;cases h
    |some m2=>
     rw[hu2]at h;simp only at h;have hn:n=12:=by
      split at h
      ·cases h
      ·exact (congrArg Prod.snd (Option.some.inj h)).symm
     subst hn;have he2: ∀j,j<6->byt t (q+6+j)=byt s (p+6+j):=fun j hj=>by
      have:=he (6+j) (by clear h he hbd;omega);rwa [←Nat.add_assoc,←Nat.add_assoc]at this
     rw[uni_same hu2 (q:=q+6) (by clear h he hbd he2;omega) he2];exact h
theorem escM_same {s t:ByteArray} {p q r n:Nat} (h:escM s p=some (r,n))(hq':q+n<=t.size)(he: ∀j,j<n->byt t (q+j)=byt s (p+j)):escM t q=some (r,n):=by
 have hbd:=zQ3 h;unfold escM at h ⊢;rw[he 1 (by omega),if_neg (by omega)];rw[if_neg (by omega)]at h;by_cases c1:byt s (p+1)=34\/byt s (p+1)=92\/byt s (p+1)=47
 ·rw[if_pos c1]at h ⊢;exact h
 ·rw[if_neg c1]at h ⊢;by_cases c2:byt s (p+1)=98
  ·rw[if_pos c2]at h ⊢;exact h
  ·rw[if_neg c2]at h ⊢;by_cases c3:byt s (p+1)=102
   ·rw[if_pos c3]at h ⊢;exact h
   ·rw[if_neg c3]at h ⊢;by_cases c4:byt s (p+1)=110
    ·rw[if_pos c4]at h ⊢;exact h
    ·rw[if_neg c4]at h ⊢;by_cases c5:byt s (p+1)=114
     ·rw[if_pos c5]at h ⊢;exact h
     ·rw[if_neg c5]at h ⊢;by_cases c6:byt s (p+1)=116
      ·rw[if_pos c6]at h ⊢;exact h
      ·rw[if_neg c6]at h ⊢;exact escU_same h hq' he
theorem partM_same {s t:ByteArray} {p q r n:Nat} (hp:p<s.size)(h:zf2 s p=some (r,n))(hq':q+n<=t.size)(he: ∀j,j<n->byt t (q+j)=byt s (p+j)):zf2 t q=some (r,n):=by
 have hbd:=zn3 hp h;have h0:=he 0 (by omega);rw[Nat.add_zero,Nat.add_zero]at h0;unfold zf2 at h ⊢;rw[h0];by_cases c1:byt s p=92
 ·rw[if_pos c1]at h ⊢;exact escM_same h hq' he
 ·rw[if_neg c1]at h ⊢;by_cases c2:byt s p<32
  ·rw[if_pos c2]at h;cases h
  ·rw[if_neg c2]at h ⊢;by_cases c3:bad s p
   ·rw[if_pos c3]at h;cases h
   ·rw[if_neg c3]at h;injection h with h
    have hw:wd s p=n:=by unfold wd;rw[h]
    have hd:=dec_same s t p q c3 (by rw[hw];exact hq') (fun j hj=>he j (by omega));rw[if_neg (by unfold bad at c3 ⊢;rw[hd];exact c3),hd,h]
theorem scan_same(s t:ByteArray): ∀(f p q g:Nat) (acc:List Nat) (e:Nat) (rs:List Nat),p<=s.size->zc5 s f p acc=(e,0,rs)->q+(e-p)<=t.size->(∀j,j<e-p->byt t (q+j)=byt s (p+j))->t.size<=q+g->
 zc5 t g q acc=(q+(e-p),0,rs)
 |0,p,q,g,acc,e,rs,_,h,_,_,_=>by
  unfold zc5 at h;injection h with _ h;injection h with h _;cases h
 |f+1,p,q,g,acc,e,rs,hps,h,hq',he,hg=>by
  have hge:=zs8 s (f+1) p acc hps;rw[h]at hge;have hlt:=hge.2.2 rfl;simp only at hlt;unfold zc5 at h;have hp:p<s.size:=by
   rcases Nat.lt_or_ge p s.size with hp|hp
   ·exact hp
   ·rw[if_neg (by omega)]at h;injection h with _ h;injection h with h _;cases h
  rw[if_pos hp]at h;obtain⟨g,rfl⟩: ∃i,g=i+1:=⟨g-1,by omega⟩;have h0:=he 0 (by omega);rw[Nat.add_zero,Nat.add_zero]at h0;rw[zc5,if_pos (by omega),h0];by_cases h34:byt s p=34
  ·rw[if_pos h34]at h ⊢;injection h with h1 h;injection h with _ h2
   rw[h2,←h1];simp only[Prod.mk.injEq,and_true];omega
  ·rw[if_neg h34]at h ⊢;cases hpm:zf2 s p with
   |none=>
    rw[hpm]at h;injection h with _ h;injection h with h _;cases h
   |some x=>
    obtain⟨r,n⟩:=x;have hbd:=zn3 hp hpm;rw[hpm]at h;simp only at h;have hge2:=(zs8 s f (p+n) (acc++[r]) hbd.2.2.2.1).2.2;rw[h]at hge2;have hlt2:=hge2 rfl;simp only at hlt2;rw[partM_same hp hpm (q:=q) (by omega) (fun j hj=>he j (by omega))];simp only;rw[scan_same s t f (p+n) (q+n) g (acc++[r]) e rs hbd.2.2.2.1 h (by omega) (fun j hj=>by have:=he (n+j) (by omega);rwa [←Nat.add_assoc,←Nat.add_assoc]at this) (by omega)];simp only[Prod.mk.injEq,and_true];omega
theorem scanM_same {s t:ByteArray} {p q e:Nat} {rs:List Nat} (h:zb7 s p=(e,0,rs))(hq':q+(e-p)<=t.size)(he: ∀j,j<e-p->byt t (q+j)=byt s (p+j)):zb7 t q=(q+(e-p),0,rs):=by
 unfold zb7 at h;split at h
 ·rename_i hc;have hge:=(zs8 s s.size (p+1) [] (by omega)).2.2;rw[h]at hge;have hlt:=hge rfl;simp only at hlt;have h0:=he 0 (by omega);rw[Nat.add_zero,Nat.add_zero]at h0;unfold zb7;rw[if_pos ⟨by omega,by rw[h0];exact hc.2⟩];rw[scan_same s t s.size (p+1) (q+1) t.size [] e rs (by omega) h (by omega) (fun j hj=>by have:=he (1+j) (by omega);rwa [←Nat.add_assoc,←Nat.add_assoc]at this) (by omega)];simp only[Prod.mk.injEq,and_true];omega
 ·injection h with _ h;injection h with h _;cases h
abbrev Tok:=Nat×Nat×Nat
def zk8(s:ByteArray):Nat->Nat->List Tok×Nat×Int
 |0,p=>([],p,0)
 |f+1,p=>
  if p<s.size then
   (if (oneM s p).2.2≠0 then([],(oneM s p).2.1,(oneM s p).2.2) else(((oneM s p).1,p,(oneM s p).2.1)::(zk8 s f (oneM s p).2.1).1,(zk8 s f (oneM s p).2.1).2))
  else([],p,0)
theorem zu0(s:ByteArray): ∀(f p:Nat) (acc:List Tok),zo9 s f p acc=(acc++(zk8 s f p).1,(zk8 s f p).2)
 |0,p,acc=>by simp[zo9,zk8]
 |f+1,p,acc=>by
  unfold zo9 zk8;by_cases hp:p<s.size
  ·rw[if_pos hp,if_pos hp];by_cases he:(oneM s p).2.2≠0
   ·rw[if_pos he,if_pos he];simp
   ·rw[if_neg he,if_neg he,zu0 s f];simp
  ·rw[if_neg hp,if_neg hp];simp
def zd0(s:ByteArray):List Tok×Nat×Int:=
 if 65536<s.size then([],0,3) else if (zv3 s).2.2≠0 then([],(zv3 s).2.1,(zv3 s).2.2) else((zv3 s).1,s.size,0)
def Chain:List Tok->Nat->Nat->Prop
 | [],a,b=>a=b
 |x::l,a,b=>x.2.1=a/\a<x.2.2/\x.2.2<=b/\1<=x.1/\x.1<=12/\Chain l x.2.2 b
theorem Chain.le: ∀ {l:List Tok} {a b:Nat},Chain l a b->a<=b
 | [],_,_,h=>Nat.le_of_eq h
 |_::_,_,_,h=>by have:=Chain.le h.2.2.2.2.2;have:=h.2.1;omega
theorem zw3(s:ByteArray): ∀(f p:Nat),p<=s.size->s.size<=p+f->(zk8 s f p).2.1<=s.size/\((zk8 s f p).2.2=0->(zk8 s f p).2.1=s.size/\Chain (zk8 s f p).1 p s.size)
 |0,p,hp,hf=>⟨hp,fun _=>⟨by simp only[zk8];omega,by simp only[zk8,Chain];omega⟩⟩
 |f+1,p,hp,hf=>by
  unfold zk8;by_cases h:p<s.size
  ·rw[if_pos h];obtain⟨b1,b2,b3,b4⟩:=zA4 s p h;by_cases he:(oneM s p).2.2≠0
   ·rw[if_pos he];exact⟨b2,fun h=>absurd h he⟩
   ·rw[if_neg he];have b5:=b4 (by omega);obtain⟨c1,c2⟩:=zw3 s f (oneM s p).2.1 b2 (by omega);refine⟨c1,fun h0=> ?_⟩;obtain⟨d1,d2⟩:=c2 h0;exact⟨d1,rfl,b5.1,b2,b5.2,b3,d2⟩
  ·rw[if_neg h];exact⟨hp,fun _=>⟨by simp only;omega,by simp only[Chain];omega⟩⟩
def NB(l:List Tok):Prop:= ∀i (h:i+1<l.length),¬((l[i]'(by omega)).1=1/\(l[i+1]'h).1=1)
theorem toksL_mem(s:ByteArray): ∀(f p:Nat),p<=s.size-> ∀x∈(zk8 s f p).1,x.2.1<x.2.2/\x.2.2<=s.size/\oneM s x.2.1=(x.1,x.2.2,0)
 |0,p,_=>fun x h=>by cases h
 |f+1,p,hps=>by
  have ih:=toksL_mem s f (oneM s p).2.1;unfold zk8;by_cases hp:p<s.size
  ·rw[if_pos hp];obtain⟨b1,b2,b3,b4⟩:=zA4 s p hp;by_cases he:(oneM s p).2.2≠0
   ·rw[if_pos he];exact fun x h=>by cases h
   ·rw[if_neg he];intro x hx;rcases List.mem_cons.1 hx with rfl|hx
    ·have e0:(oneM s p).2.2=0:=by omega
     exact⟨(b4 e0).1,b2,by rw[←e0]⟩
    ·exact ih b2 x hx
  ·rw[if_neg hp];exact fun x h=>by cases h
section
variable {b t:ByteArray} {n:Nat} (hz:t.size=n+b.size) (hx: ∀p,p<=b.size->b.extract p b.size=t.extract (n+p) t.size)
include hz hx
def shiftT(n:Nat)(x:Tok):Tok:=(x.1,n+x.2.1,n+x.2.2)
end
theorem sign4_any(c:Nat)(w:World):Calls Tryz.prog 212 #[.int .u8 (c:Int)] w fun e w'=>e= .returned (.int .i64 (zn8 c:Int))/\w=w':=by
 have HN:Hq (zn8 c=if c=123 then 2 else if c=125 then 3 else if c=91 then 4 else if c=93 then 5 else if c=44 then 6 else if c=58 then 7 else 0):=hq rfl;generalize zn8 c=R at *;by_cases h1:c=123
 ·have HN2:=hq (HN.o.trans (if_pos h1));have e1:((c:Int)==123)=true:=by rw[h1];rfl
  clear HN h1;go_enter Tryz.func212,Tryz.ntmps212
  go_wp2_with fail
  go_ret
  exact⟨by rw[HN2.o];rfl,rfl⟩
 ·have HN2:=hq (HN.o.trans (if_neg h1));have e1:((c:Int)==123)=false:=beq_eq_false_iff_ne.2 (by omega);clear HN h1;by_cases h1:c=125
  ·have HN:=hq (HN2.o.trans (if_pos h1));have e2:((c:Int)==125)=true:=by rw[h1];rfl
   clear HN2 h1;go_enter Tryz.func212,Tryz.ntmps212
   go_wp2_with fail
   go_ret
   exact⟨by rw[HN.o];rfl,rfl⟩
  ·have HN:=hq (HN2.o.trans (if_neg h1));have e2:((c:Int)==125)=false:=beq_eq_false_iff_ne.2 (by omega);clear HN2 h1;by_cases h1:c=91
   ·have HN2:=hq (HN.o.trans (if_pos h1));have e3:((c:Int)==91)=true:=by rw[h1];rfl
    clear HN h1;go_enter Tryz.func212,Tryz.ntmps212
    go_wp2_with fail
    go_ret
    exact⟨by rw[HN2.o];rfl,rfl⟩
   ·have HN2:=hq (HN.o.trans (if_neg h1));have e3:((c:Int)==91)=false:=beq_eq_false_iff_ne.2 (by omega);clear HN h1;by_cases h1:c=93
    ·have HN:=hq (HN2.o.trans (if_pos h1));have e4:((c:Int)==93)=true:=by rw[h1];rfl
     clear HN2 h1;go_enter Tryz.func212,Tryz.ntmps212
     go_wp2_with fail
     go_ret
     exact⟨by rw[HN.o];rfl,rfl⟩
    ·have HN:=hq (HN2.o.trans (if_neg h1));have e4:((c:Int)==93)=false:=beq_eq_false_iff_ne.2 (by omega);clear HN2 h1;by_cases h1:c=44
     ·have HN2:=hq (HN.o.trans (if_pos h1));have e5:((c:Int)==44)=true:=by rw[h1];rfl
      clear HN h1;go_enter Tryz.func212,Tryz.ntmps212
      go_wp2_with fail
      go_ret
      exact⟨by rw[HN2.o];rfl,rfl⟩
     ·have HN2:=hq (HN.o.trans (if_neg h1));have e5:((c:Int)==44)=false:=beq_eq_false_iff_ne.2 (by omega);clear HN h1;by_cases h1:c=58
      ·have HN:=hq (HN2.o.trans (if_pos h1));have e6:((c:Int)==58)=true:=by rw[h1];rfl
       clear HN2 h1;go_enter Tryz.func212,Tryz.ntmps212
       go_wp2_with fail
       go_ret
       exact⟨by rw[HN.o];rfl,rfl⟩
      ·have HN:=hq (HN2.o.trans (if_neg h1));have e6:((c:Int)==58)=false:=beq_eq_false_iff_ne.2 (by omega);clear HN2 h1;go_enter Tryz.func212,Tryz.ntmps212
       go_wp2_with fail
       go_ret
       exact⟨by rw[HN.o];rfl,rfl⟩
theorem zj5(t:ByteArray)(l:Bs):(t.toList==l)=decide (t.data.toList=l):=by
 rw[ByteArray.toList_eq,Bool.eq_iff_iff,beq_iff_eq,decide_eq_true_iff]
theorem word4_any(t:ByteArray)(w:World):Calls Tryz.prog 214 #[.string t] w fun e w'=>e= .returned (.int .i64 (zp4 t.data.toList:Int))/\w=w':=by
 have HN:Hq (zp4 t.data.toList=if t.data.toList=[116,114,117,101] then 10 else if t.data.toList=[102,97,108,115,101] then 11 else if t.data.toList=[110,117,108,108] then 12 else 0):=hq rfl;generalize zp4 t.data.toList=R at *;have e1:=zj5 t [116,114,117,101];have e2:=zj5 t [102,97,108,115,101];have e3:=zj5 t [110,117,108,108];by_cases h1:t.data.toList=[116,114,117,101]
 ·have HN2:=hq (HN.o.trans (if_pos h1));rw[decide_eq_true h1]at e1;clear HN h1 e2 e3;go_enter Tryz.func214,Tryz.ntmps214
  go_wp2_with fail
  go_ret
  exact⟨by rw[HN2.o];rfl,rfl⟩
 ·have HN2:=hq (HN.o.trans (if_neg h1));rw[decide_eq_false h1]at e1;clear HN h1;by_cases h1:t.data.toList=[102,97,108,115,101]
  ·have HN:=hq (HN2.o.trans (if_pos h1));rw[decide_eq_true h1]at e2;clear HN2 h1 e3;go_enter Tryz.func214,Tryz.ntmps214
   go_wp2_with fail
   go_ret
   exact⟨by rw[HN.o];rfl,rfl⟩
  ·have HN:=hq (HN2.o.trans (if_neg h1));rw[decide_eq_false h1]at e2;clear HN2 h1;by_cases h1:t.data.toList=[110,117,108,108]
   ·have HN2:=hq (HN.o.trans (if_pos h1));rw[decide_eq_true h1]at e3;clear HN h1;go_enter Tryz.func214,Tryz.ntmps214
    go_wp2_with fail
    go_ret
    exact⟨by rw[HN2.o];rfl,rfl⟩
   ·have HN2:=hq (HN.o.trans (if_neg h1));rw[decide_eq_false h1]at e3;clear HN h1;go_enter Tryz.func214,Tryz.ntmps214
    go_wp2_with fail
    go_ret
    exact⟨by rw[HN2.o];rfl,rfl⟩
def zJ6(S:ByteArray)(q:Nat->Bool):Prop:= ∀c:Nat,c<256->(decide (0<=Lib.indexByte S.data.toList ((c:Int)).toNat.toUInt8)=q c)
abbrev zu2:ByteArray:=⟨#[32,9,10,13]⟩
abbrev setNum:ByteArray:=⟨#[45,43,46,48,49,50,51,52,53,54,55,56,57,101,69]⟩
abbrev setLet:ByteArray:=⟨#[97,98,99,100,101,102,103,104,105,106,107,108,109,110,111,112,113,114,115,116,117,118,119,120,121,122]⟩
theorem zF0:zJ6 zu2 zf1:=by unfold zJ6;decide+kernel
theorem setNum_is:zJ6 setNum zj2:=by unfold zJ6;decide+kernel
theorem setLet_is:zJ6 setLet zi2:=by unfold zJ6;decide+kernel
theorem zA9(S:ByteArray)(q:Nat->Bool)(h:zJ6 S q)(c:Nat)(hc:c<256): ∃I:Int,(∀W,Calls Tryz.prog 37 #[.string S,.int .u8 (c:Int)] W fun e w'=>e= .returned (.int .i64 I)/\W=w')/\(q c=true->0<=I)/\(q c=false->I<0):=by
 refine⟨_,fun W=>(Tryz.strings_IndexByte S (c:Int) W).mono fun e w' hh=>⟨hh.1,hh.2.symm⟩,fun hq1=> ?_,fun hq1=> ?_⟩
 ·have:=h c hc;rw[hq1]at this;exact of_decide_eq_true this
 ·have:=h c hc;rw[hq1]at this;have:=of_decide_eq_false this;omega
theorem zO1(S:ByteArray)(q:Nat->Bool)(hS:zJ6 S q)(s:ByteArray)(p:Nat)(w:World)(hs:s.size<=1099511627776)(hp:p<=s.size):
 Calls Tryz.prog 213 #[.string s,.int .i64 (p:Int),.string S] w fun e w'=>e= .returned (.int .i64 (zc6 s q p:Int))/\w=w':=by
 have HI:=hq (zA9 S q hS);have HS:=hq (fun k h1 h2=> @zu3 s q k h1 h2);have HO:=hq (fun k h1=> @zK9 s q k h1);have HE:=hq (fun k h1=> @runTo_end s q k h1);generalize hR:zc6 s q p=R;have HR:=hq hR;clear hR hS;go_enter Tryz.func213,Tryz.ntmps213
 go_wp2_with fail
 go_loop [1] (fun i=> ∃k:Nat,k<=s.size/\i= .int .i64 (k:Int)/\Hq (zc6 s q k=R)) (fun i=>s.size-(intOf i).toNat)
 case atStart=>exact⟨p,hp,rfl,HR⟩
 case round=>
  obtain⟨k,hk,rfl,hr⟩:=hrel;clear HR;by_cases hks:k<s.size
  ·have y0:((s[k]'hks).toNat:Int)=(byt s k:Int):=by rw[zb6 s k hks]
   obtain⟨I,hI,i1,i2⟩:=HI.o (byt s k) (zd3 s k);have HC:=hq hI;have HS2:=hq (HS.o k hks);have HO2:=hq (HO.o k);clear hI HS HO HE HI;generalize byt s k=c at *;cases hqc:q c with
   |true=>
    have hi:=i1 hqc;have HN:Hq (zc6 s q (k+1)=R):=hq (by rw[←HS2.o hqc];exact hr.o);clear i1 i2 hqc HS2 HO2 hr;go_wp2_with fail
    refine(HC.o _).mono ?_;rintro e w' ⟨rfl,hw⟩;obtain rfl:=hw;go_wp2_with fail
    go_round
    case rel=>exact⟨k+1,by omega,zb5 (by omega),HN⟩
    case measure=>simp[intOf];omega
   |false=>
    have hi:=i2 hqc;have HN:Hq (k=R):=hq (by rw[←HO2.o hqc];exact hr.o);clear i1 i2 hqc HS2 HO2 hr;go_wp2_with fail
    refine(HC.o _).mono ?_;rintro e w' ⟨rfl,hw⟩;obtain rfl:=hw;go_wp2_with fail
    go_ret
    exact⟨by rw[←HN.o];rfl,rfl⟩
  ·obtain rfl:k=s.size:=by omega
   have HN:Hq (s.size=R):=hq (by rw[←HE.o s.size (Nat.le_refl _)];exact hr.o);clear HI HS HO HE hr;go_wp2_with fail
   go_ret
   exact⟨by rw[←HN.o];rfl,rfl⟩
end Go.Proofs.YtkafjblfjdpdaaaGreatDoor
