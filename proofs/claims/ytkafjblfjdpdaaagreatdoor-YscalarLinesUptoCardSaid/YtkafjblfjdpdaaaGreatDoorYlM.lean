/-
  PLAIN MATHEMATICS: a line of YAML, taken apart; strings in single quotes.
-/
import Derived.Test.YtkafjblfjdpdaaaGreatDoorUna
namespace Go.Proofs.YtkafjblfjdpdaaaGreatDoor
open Go.RowKit
def badC(s:ByteArray)(del:Bool)(p:Nat):Bool:=decide (bad s p)||decide (byt s p<32)||(del&&byt s p==127)
def clnM(s:ByteArray)(del:Bool):Nat→Nat→Nat
 |0,_=>s.size
 |f+1,p=>if p<s.size then(if badC s del p=true then p else clnM s del f (p+wd s p)) else s.size
def cleanM(s:ByteArray)(del:Bool):Nat:=clnM s del s.size 0
theorem clnM_end(s:ByteArray)(d:Bool)(f p:Nat)(h: ¬p<s.size):clnM s d f p=s.size:=by
 cases f with
 |zero=>rfl
 |succ f=>unfold clnM;rw[if_neg h]
theorem clnM_bad(s:ByteArray)(d:Bool)(f p:Nat)(h:p<s.size)(hb:badC s d p=true):clnM s d (f+1) p=p:=by unfold clnM;rw[if_pos h,if_pos hb]
theorem clnM_step(s:ByteArray)(d:Bool)(f p:Nat)(h:p<s.size)(hb:badC s d p=false):clnM s d (f+1) p=clnM s d f (p+wd s p):=by
 rw[clnM,if_pos h,if_neg (by rw[hb];exact Bool.false_ne_true)]
theorem clnM_le(s:ByteArray)(d:Bool): ∀f p,clnM s d f p≤s.size
 |0,_=>Nat.le_refl _
 |f+1,p=>by
  unfold clnM
  split
  ·split
   ·omega
   ·exact clnM_le s d f _
  ·exact Nat.le_refl _
def blkGo(s:ByteArray):Nat→Nat→Nat
 |0,p=>p
 |f+1,p=>if p<s.size∧byt s p=32 then blkGo s f (p+1) else p
def blk(s:ByteArray)(p:Nat):Nat:=blkGo s (s.size-p) p
theorem blk_step {s:ByteArray} {p:Nat} (h:p<s.size)(h1:byt s p=32):blk s p=blk s (p+1):=by
 unfold blk
 rw[show s.size-p=(s.size-(p+1))+1 by omega,blkGo,if_pos ⟨h,h1⟩]
theorem blk_stop {s:ByteArray} {p:Nat} (h: ¬(p<s.size∧byt s p=32)):blk s p=p:=by
 unfold blk
 cases s.size-p with
 |zero=>rfl
 |succ f=>rw[blkGo,if_neg h]
theorem blkGo_bd(s:ByteArray): ∀f p,p≤blkGo s f p∧(p≤s.size→blkGo s f p≤s.size)∧(∀j,p≤j→j<blkGo s f p→byt s j=32)
 |0,p=>⟨Nat.le_refl _,fun h=>h,fun j h1 h2=>by unfold blkGo at h2;omega⟩
 |f+1,p=>by
  unfold blkGo
  split
  ·rename_i h
   obtain⟨h1,h2,h3⟩:=blkGo_bd s f (p+1)
   refine⟨by omega,fun _=>h2 h.1,fun j k1 k2=> ?_⟩
   by_cases hj:j=p
   ·rw[hj];exact h.2
   ·exact h3 j (by omega) k2
  ·exact ⟨Nat.le_refl _,fun h=>h,fun j h1 h2=>by omega⟩
theorem blk_ge(s:ByteArray)(p:Nat):p≤blk s p:=(blkGo_bd s _ p).1
theorem blk_le(s:ByteArray)(p:Nat)(h:p≤s.size):blk s p≤s.size:=(blkGo_bd s _ p).2.1 h
def sgn(s:ByteArray)(p c:Nat):Bool:=decide (p<s.size)&&(byt s p==c)&&(decide (p+1=s.size)||byt s (p+1)==32)
def cmt(s:ByteArray)(p:Nat):Bool:=decide (0<p)&&byt s p==35&&byt s (p-1)==32
def keyGo(s:ByteArray)(a:Nat):Nat→Nat→Nat
 |0,_=>a
 |f+1,q=>if q<s.size then(if cmt s q=true then a else if a<q∧sgn s q 58=true then q else keyGo s a f (q+1)) else a
def keyTo(s:ByteArray)(a q:Nat):Nat:=keyGo s a (s.size-q) q
def cmtGo(s:ByteArray):Nat→Nat→Nat
 |0,_=>s.size
 |f+1,q=>if q<s.size then(if cmt s q=true then q else cmtGo s f (q+1)) else s.size
def cmtTo(s:ByteArray)(q:Nat):Nat:=cmtGo s (s.size-q) q
def trm(s:ByteArray)(a:Nat):Nat→Nat
 |0=>0
 |t+1=>if a<t+1∧byt s t=32 then trm s a t else t+1
theorem keyTo_end {s:ByteArray} {a q:Nat} (h: ¬q<s.size):keyTo s a q=a:=by
 unfold keyTo;rw[show s.size-q=0 by omega];rfl
theorem keyTo_cmt {s:ByteArray} {a q:Nat} (h:q<s.size)(h1:cmt s q=true):keyTo s a q=a:=by
 unfold keyTo;rw[show s.size-q=(s.size-(q+1))+1 by omega,keyGo,if_pos h,if_pos h1]
theorem keyTo_hit {s:ByteArray} {a q:Nat} (h:q<s.size)(h1:cmt s q=false)(h2:a<q)(h3:sgn s q 58=true):keyTo s a q=q:=by
 unfold keyTo;rw[show s.size-q=(s.size-(q+1))+1 by omega,keyGo,if_pos h,if_neg (by rw[h1];exact Bool.false_ne_true),if_pos ⟨h2,h3⟩]
theorem keyTo_next {s:ByteArray} {a q:Nat} (h:q<s.size)(h1:cmt s q=false)(h2:a<q→sgn s q 58=false):keyTo s a q=keyTo s a (q+1):=by
 unfold keyTo
 rw[show s.size-q=(s.size-(q+1))+1 by omega,keyGo,if_pos h,if_neg (by rw[h1];exact Bool.false_ne_true),if_neg (fun hh=>by rw[h2 hh.1]at hh;cases hh.2)]
theorem high_cmt {s:ByteArray} {q:Nat} (h:byt s q≠35):cmt s q=false:=by
 unfold cmt;rw[show (byt s q==35)=false from beq_eq_false_iff_ne.2 h,Bool.and_false,Bool.false_and]
theorem not_sgn {s:ByteArray} {q c:Nat} (h:byt s q≠c):sgn s q c=false:=by
 unfold sgn;rw[show (byt s q==c)=false from beq_eq_false_iff_ne.2 h,Bool.and_false,Bool.false_and]
theorem keyTo_rune {s:ByteArray} {a q:Nat} (h:q<s.size)(h1:cmt s q=false)(h2:a<q→sgn s q 58=false):keyTo s a q=keyTo s a (q+wd s q):=by
 have key: ∀k,1≤k→k≤wd s q→keyTo s a q=keyTo s a (q+k):=by
  intro k
  induction k with
  |zero=>intro h;omega
  |succ k ih=>
   intro _ hk
   by_cases h0:k=0
   ·subst h0;exact keyTo_next h h1 h2
   ·rw[ih (by omega) (by omega)]
    have hb:=wd_cont s q k (by omega) (by omega)
    have hw:=wd_le s q h
    exact keyTo_next (by omega) (high_cmt (by omega)) (fun _=>not_sgn (by omega))
 exact key _ (wd_pos s q) (Nat.le_refl _)
theorem cmtTo_end {s:ByteArray} {q:Nat} (h: ¬q<s.size):cmtTo s q=s.size:=by
 unfold cmtTo;rw[show s.size-q=0 by omega];rfl
theorem cmtTo_hit {s:ByteArray} {q:Nat} (h:q<s.size)(h1:cmt s q=true):cmtTo s q=q:=by
 unfold cmtTo;rw[show s.size-q=(s.size-(q+1))+1 by omega,cmtGo,if_pos h,if_pos h1]
theorem cmtTo_next {s:ByteArray} {q:Nat} (h1:cmt s q=false):cmtTo s q=cmtTo s (q+1):=by
 by_cases h:q<s.size
 ·unfold cmtTo;rw[show s.size-q=(s.size-(q+1))+1 by omega,cmtGo,if_pos h,if_neg (by rw[h1];exact Bool.false_ne_true)]
 ·rw[cmtTo_end h,cmtTo_end (by omega)]
theorem cmtTo_rune {s:ByteArray} {q:Nat} (_h:q<s.size)(h1:cmt s q=false):cmtTo s q=cmtTo s (q+wd s q):=by
 have key: ∀k,1≤k→k≤wd s q→cmtTo s q=cmtTo s (q+k):=by
  intro k
  induction k with
  |zero=>intro h;omega
  |succ k ih=>
   intro _ hk
   by_cases h0:k=0
   ·subst h0;exact cmtTo_next h1
   ·rw[ih (by omega) (by omega)]
    have hb:=wd_cont s q k (by omega) (by omega)
    exact cmtTo_next (high_cmt (by omega))
 exact key _ (wd_pos s q) (Nat.le_refl _)
theorem cmtGo_bd(s:ByteArray): ∀f q,q≤s.size→q≤cmtGo s f q∧cmtGo s f q≤s.size∧(cmtGo s f q<s.size→cmt s (cmtGo s f q)=true)
 |0,q,h=>⟨h,Nat.le_refl _,fun h=>by unfold cmtGo at h;omega⟩
 |f+1,q,h=>by
  unfold cmtGo
  by_cases hq':q<s.size
  ·rw[if_pos hq']
   cases hc:cmt s q with
   |true=>rw[if_pos rfl];exact⟨Nat.le_refl _,h,fun _=>hc⟩
   |false=>
    rw[if_neg Bool.false_ne_true]
    obtain⟨h1,h2,h3⟩:=cmtGo_bd s f (q+1) hq'
    exact⟨by omega,h2,h3⟩
  ·rw[if_neg hq'];exact⟨h,Nat.le_refl _,fun h=>by omega⟩
theorem cmtTo_ge(s:ByteArray)(q:Nat)(h:q≤s.size):q≤cmtTo s q:=(cmtGo_bd s _ q h).1
theorem trm_bd(s:ByteArray)(a:Nat): ∀t,a≤t→a≤trm s a t∧trm s a t≤t∧(∀j,trm s a t≤j→j<t→byt s j=32)∧(a<trm s a t→byt s (trm s a t-1)≠32)
 |0,h=>⟨h,Nat.le_refl _,fun j _ h2=>by omega,fun h=>by unfold trm at h;omega⟩
 |t+1,h=>by
  unfold trm
  split
  ·rename_i hc
   obtain⟨h1,h2,h3,h4⟩:=trm_bd s a t (by omega)
   refine⟨h1,by omega,fun j k1 k2=> ?_,h4⟩
   by_cases hj:j=t
   ·rw[hj];exact hc.2
   ·exact h3 j k1 (by omega)
  ·rename_i hc
   exact⟨h,Nat.le_refl _,fun j k1 k2=>by omega,fun h1 h2=>hc ⟨h1,h2⟩⟩
theorem keyGo_bd(s:ByteArray)(a:Nat): ∀f q,a<keyGo s a f q→q≤keyGo s a f q∧keyGo s a f q<s.size∧sgn s (keyGo s a f q) 58=true
 |0,q,h=>by unfold keyGo at h;omega
 |f+1,q,h=>by
  unfold keyGo at h ⊢
  split at h
  ·rename_i h1
   rw[if_pos h1]
   split at h
   ·omega
   ·rename_i h2
    rw[if_neg h2]
    split at h
    ·rename_i h3
     rw[if_pos h3];exact⟨Nat.le_refl _,h1,h3.2⟩
    ·rename_i h3
     rw[if_neg h3]
     obtain⟨k1,k2,k3⟩:=keyGo_bd s a f (q+1) h
     exact⟨by omega,k2,k3⟩
  ·omega
theorem keyGo_ge(s:ByteArray)(a:Nat): ∀f q,a≤q→a≤keyGo s a f q
 |0,q,_=>Nat.le_refl _
 |f+1,q,h=>by
  unfold keyGo
  split
  ·split
   ·exact Nat.le_refl _
   ·split
    ·exact h
    ·exact keyGo_ge s a f (q+1) (by omega)
  ·exact Nat.le_refl _
def sglGo(s:ByteArray):Nat→Nat→Bs→Bs×Nat×Int
 |0,_,_=>([],s.size,2)
 |f+1,q,acc=>
  if q<s.size then
   (if byt s q=39 then(if q+1<s.size∧byt s (q+1)=39 then sglGo s f (q+2) (acc++[39]) else(acc,q+1,0))
    else if bad s q∨byt s q<32 then([],q,2)
    else sglGo s f (q+wd s q) (acc++runeAt s q))
  else([],s.size,2)
def sglM(s:ByteArray)(a:Int):Bs×Nat×Int:=
 if a<0∨(s.size:Int)<a then([],0,2) else if a.toNat=s.size∨byt s a.toNat≠39 then([],a.toNat,2) else sglGo s s.size (a.toNat+1) []
theorem sglGo_end {s:ByteArray} {f q:Nat} {acc:Bs} (h: ¬q<s.size):sglGo s f q acc=([],s.size,2):=by
 cases f with
 |zero=>rfl
 |succ f=>rw[sglGo,if_neg h]
theorem sglGo_two {s:ByteArray} {f q:Nat} {acc:Bs} (h:q<s.size)(h1:byt s q=39)(h2:q+1<s.size)(h3:byt s (q+1)=39):sglGo s (f+1) q acc=sglGo s f (q+2) (acc++[39]):=by
 rw[sglGo,if_pos h,if_pos h1,if_pos ⟨h2,h3⟩]
theorem sglGo_ok {s:ByteArray} {f q:Nat} {acc:Bs} (h:q<s.size)(h1:byt s q=39)(h2: ¬(q+1<s.size∧byt s (q+1)=39)):sglGo s (f+1) q acc=(acc,q+1,0):=by
 rw[sglGo,if_pos h,if_pos h1,if_neg h2]
theorem sglGo_bad {s:ByteArray} {f q:Nat} {acc:Bs} (h:q<s.size)(h1:byt s q≠39)(h2:bad s q∨byt s q<32):sglGo s (f+1) q acc=([],q,2):=by
 rw[sglGo,if_pos h,if_neg h1,if_pos h2]
theorem sglGo_rune {s:ByteArray} {f q:Nat} {acc:Bs} (h:q<s.size)(h1:byt s q≠39)(h2: ¬(bad s q∨byt s q<32)):sglGo s (f+1) q acc=sglGo s f (q+wd s q) (acc++runeAt s q):=by
 rw[sglGo,if_pos h,if_neg h1,if_neg h2]
theorem sglGo_bd(s:ByteArray): ∀f q acc,q≤s.size→q≤(sglGo s f q acc).2.1∧(sglGo s f q acc).2.1≤s.size∧((sglGo s f q acc).2.2=0∨(sglGo s f q acc).2.2=2)∧((sglGo s f q acc).2.2=0→q<(sglGo s f q acc).2.1)
 |0,q,acc,h=>⟨h,Nat.le_refl _,.inr rfl,fun h=>by cases h⟩
 |f+1,q,acc,h=>by
  by_cases hq':q<s.size
  ·by_cases h39:byt s q=39
   ·by_cases h2:q+1<s.size∧byt s (q+1)=39
    ·rw[sglGo_two hq' h39 h2.1 h2.2]
     obtain⟨a1,a2,a3,a4⟩:=sglGo_bd s f (q+2) (acc++[39]) (by omega)
     exact⟨by omega,a2,a3,fun h=>by have:=a4 h;omega⟩
    ·rw[sglGo_ok hq' h39 h2];exact⟨by simp only;omega,by simp only;omega,.inl rfl,fun _=>by simp only;omega⟩
   ·by_cases hb:bad s q∨byt s q<32
    ·rw[sglGo_bad hq' h39 hb];exact⟨Nat.le_refl _,h,.inr rfl,fun h=>by cases h⟩
    ·rw[sglGo_rune hq' h39 hb]
     have hw:=wd_pos s q
     obtain⟨a1,a2,a3,a4⟩:=sglGo_bd s f (q+wd s q) (acc++runeAt s q) (wd_le s q hq')
     exact⟨by omega,a2,a3,fun h=>by have:=a4 h;omega⟩
  ·rw[sglGo_end hq'];exact⟨h,Nat.le_refl _,.inr rfl,fun h=>by cases h⟩
def qtd(s:ByteArray)(p:Nat):Nat×Bool×Bool:=
 if p=s.size then(p,false,false)
 else if byt s p=34 then((scanM s p).1,true,(scanM s p).2.1==0)
 else if byt s p=39 then((sglM s p).2.1,true,(sglM s p).2.2==0)
 else(p,false,false)
def ykeyM(s:ByteArray)(p:Nat):Nat×Bool:=
 if (qtd s p).2.1=true then(if (qtd s p).2.2=true∧sgn s (qtd s p).1 58=true then((qtd s p).1,true) else(p,(qtd s p).2.2))
 else if byt s p=91∨byt s p=123 then(p,true)
 else(keyTo s p p,true)
def look(s:ByteArray)(p:Nat):Nat:=if (qtd s p).2.2=true then(qtd s p).1 else p
def restM(s:ByteArray)(p:Nat):(Nat×Nat)×Option Nat:=
 ((blk s p,trm s (blk s p) (cmtTo s (look s (blk s p)))),if cmtTo s (look s (blk s p))<s.size then some (cmtTo s (look s (blk s p))) else none)
def lineD(s:ByteArray)(p:Nat):Option (Nat×Option Nat×(Nat×Nat)×Option Nat):=
 if p=s.size then some (1,none,(p,p),none)
 else if byt s p=35 then some (2,none,(p,p),some p)
 else if sgn s p 45=true then some (3,none,restM s (p+1))
 else if (ykeyM s p).2=false then none
 else if p<(ykeyM s p).1 then some (4,some (ykeyM s p).1,restM s ((ykeyM s p).1+1))
 else some (5,none,restM s p)
theorem scanGo_ge1(s:ByteArray): ∀(f p:Nat) (acc:List Nat),p≤s.size→p≤(scanGo s f p acc).1∧(scanGo s f p acc).1≤s.size∧((scanGo s f p acc).2.1=0→p<(scanGo s f p acc).1)
 |0,p,acc,h=>⟨h,Nat.le_refl _,fun h=>by unfold scanGo at h;cases h⟩
 |f+1,p,acc,h=>by
  unfold scanGo
  by_cases hp:p<s.size
  ·rw[if_pos hp]
   by_cases h34:byt s p=34
   ·rw[if_pos h34];exact⟨by simp only;omega,hp,fun _=>by simp only;omega⟩
   ·rw[if_neg h34]
    cases hpm:partM s p with
    |none=>exact⟨Nat.le_refl _,Nat.le_of_lt hp,fun h=>by cases h⟩
    |some x=>
     obtain⟨r,n⟩:=x
     have hbd:=partM_bd hp hpm
     obtain⟨a1,a2,a3⟩:=scanGo_ge1 s f (p+n) (acc++[r]) hbd.2.2.2.1
     exact⟨by simp only;omega,a2,fun h=>by have:=a3 h;simp only;omega⟩
  ·rw[if_neg hp];exact⟨h,Nat.le_refl _,fun h=>by cases h⟩
theorem scanGo_ge'(s:ByteArray)(p:Nat)(h:p≤s.size):p≤(scanM s p).1∧(scanM s p).1≤s.size∧((scanM s p).2.1=0→p<(scanM s p).1):=by
 unfold scanM
 split
 ·rename_i hc
  obtain⟨a1,a2,a3⟩:=scanGo_ge1 s s.size (p+1) [] hc.1
  exact⟨by omega,a2,fun h=>by have:=a3 h;omega⟩
 ·exact ⟨Nat.le_refl _,h,fun h=>by cases h⟩
theorem qtd_bd(s:ByteArray)(p:Nat)(h:p≤s.size):p≤(qtd s p).1∧(qtd s p).1≤s.size∧((qtd s p).2.2=true→p<(qtd s p).1∧(qtd s p).2.1=true):=by
 unfold qtd
 split
 ·exact ⟨Nat.le_refl _,h,fun h=>by cases h⟩
 ·rename_i h0
  split
  ·have hs:=scanGo_ge' s p h
   exact⟨hs.1,hs.2.1,fun h=>⟨hs.2.2 (by simpa using h),rfl⟩⟩
  ·split
   ·rename_i h39
    have hc: ¬((p:Int)<0∨(s.size:Int)<(p:Int)):=by omega
    unfold sglM
    rw[if_neg hc]
    simp only[Int.toNat_natCast]
    rw[if_neg (by omega)]
    obtain⟨a1,a2,a3,a4⟩:=sglGo_bd s s.size (p+1) [] (by omega)
    exact⟨by omega,a2,fun h=>⟨by have:=a4 (by simpa using h);omega,by trivial⟩⟩
   ·exact ⟨Nat.le_refl _,h,fun h=>by cases h⟩
theorem look_bd(s:ByteArray)(p:Nat)(h:p≤s.size):p≤look s p∧look s p≤s.size:=by
 unfold look
 have:=qtd_bd s p h
 split
 ·exact ⟨this.1,this.2.1⟩
 ·exact ⟨Nat.le_refl _,h⟩
theorem keyM_bd(s:ByteArray)(p:Nat)(h:p<s.size):p≤(ykeyM s p).1∧(ykeyM s p).1≤s.size∧(p<(ykeyM s p).1→sgn s (ykeyM s p).1 58=true∧(ykeyM s p).1<s.size∧(ykeyM s p).2=true):=by
 have hq':=qtd_bd s p (Nat.le_of_lt h)
 unfold ykeyM
 split
 ·split
  ·rename_i hc
   refine⟨hq'.1,hq'.2.1,fun _=>⟨hc.2,?_,rfl⟩⟩
   have:=hc.2
   unfold sgn at this
   simp only[Bool.and_eq_true,decide_eq_true_eq]at this
   exact this.1.1
  ·exact ⟨Nat.le_refl _,Nat.le_of_lt h,fun h=>by simp only at h;omega⟩
 ·split
  ·exact ⟨Nat.le_refl _,Nat.le_of_lt h,fun h=>by simp only at h;omega⟩
  ·have h1:=keyGo_ge s p (s.size-p) p (Nat.le_refl _)
   refine⟨h1,?_,fun hc=> ?_⟩
   ·by_cases hc:p<keyTo s p p
    ·have:=(keyGo_bd s p _ _ hc).2.1
     exact Nat.le_of_lt this
    ·have:keyTo s p p=p:=Nat.le_antisymm (Nat.not_lt.1 hc) h1
     simp only;omega
   ·have:=keyGo_bd s p _ _ hc
    exact⟨this.2.2,this.2.1,rfl⟩
end Go.Proofs.YtkafjblfjdpdaaaGreatDoor
