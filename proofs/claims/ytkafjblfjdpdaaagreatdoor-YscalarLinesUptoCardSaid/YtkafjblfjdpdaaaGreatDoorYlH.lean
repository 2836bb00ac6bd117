/-
  PLAIN MATHEMATICS: a line that stands further on in a text.
-/
import Derived.Test.YtkafjblfjdpdaaaGreatDoorYlM
import Derived.Test.YtkafjblfjdpdaaaGreatDoorUna
namespace Go.Proofs.YtkafjblfjdpdaaaGreatDoor
open Go.RowKit
structure Suf(u:ByteArray)(k:Nat)(v:ByteArray):Prop where
 le:k≤u.size
 eq:v=u.extract k u.size
section
variable {u v:ByteArray} {k:Nat}
theorem byt_out(s:ByteArray)(p:Nat)(h:s.size≤p):byt s p=0:=by
 unfold byt
 rw[show s.get! p=s.data[p]! from rfl,Array.getElem!_eq_getD,Array.getD]
 rw[dif_neg (by show¬p<s.data.size;have:s.data.size=s.size:=rfl;omega)]
 rfl
theorem Suf.size(h:Suf u k v):u.size=k+v.size:=by
 have:=h.le
 rw[h.eq,ByteArray.size_extract];omega
theorem Suf.byt(h:Suf u k v)(i:Nat):byt u (k+i)=byt v i:=by
 have hz:=h.size
 by_cases hi:i<v.size
 ·rw[byt_eq u (k+i) (by omega),byt_eq v i hi]
  have:v[i]'hi=(u.extract k u.size)[i]'(by rw[←h.eq];exact hi):=by
   congr 1
   exact h.eq
  rw[this,ByteArray.getElem_extract]
 ·rw[byt_out u _ (by omega),byt_out v _ (by omega)]
theorem Suf.dec(h:Suf u k v)(i:Nat):Utf8.decode u (k+i)=Utf8.decode v i:=by
 rw[dec_eq,dec_eq,show u.size-(k+i)=v.size-i by have:=h.size;omega,h.byt i,show k+i+1=k+(i+1) by omega,show k+i+2=k+(i+2) by omega,show k+i+3=k+(i+3) by omega,h.byt,h.byt,h.byt]
theorem Suf.wd(h:Suf u k v)(i:Nat):wd u (k+i)=wd v i:=by unfold Proofs.YtkafjblfjdpdaaaGreatDoor.wd;rw[h.dec]
theorem Suf.bad(h:Suf u k v)(i:Nat):bad u (k+i)=bad v i:=by unfold Proofs.YtkafjblfjdpdaaaGreatDoor.bad;rw[h.dec]
theorem tail_list(u:ByteArray)(k:Nat):(u.extract k u.size).data.toList=u.data.toList.drop k:=by
 rw[ByteArray.data_extract,Array.toList_extract,List.extract_eq_take_drop]
 refine List.take_of_length_le ?_
 rw[List.length_drop,Array.length_toList]
 exact Nat.le_refl _
theorem Suf.drop(h:Suf u k v)(i:Nat):u.data.toList.drop (k+i)=v.data.toList.drop i:=by
 rw[h.eq,tail_list,List.drop_drop]
theorem Suf.step(h:Suf u k v)(i:Nat)(hi:i≤v.size):Suf u (k+i) (v.extract i v.size):=by
 have hz:=h.size
 refine⟨by omega,ba_ext (Array.ext' ?_)⟩
 rw[tail_list,tail_list,h.drop]
theorem Suf.rune(h:Suf u k v)(i:Nat):runeAt u (k+i)=runeAt v i:=by unfold runeAt;rw[h.drop,h.wd]
theorem Suf.badC(h:Suf u k v)(d:Bool)(i:Nat):badC u d (k+i)=badC v d i:=by
 unfold Proofs.YtkafjblfjdpdaaaGreatDoor.badC
 rw[h.byt]
 congr 2
 exact decide_eq_decide.2 (by rw[h.bad])
theorem Suf.clnM(h:Suf u k v)(d:Bool): ∀f p,clnM u d f (k+p)=k+clnM v d f p
 |0,p=>h.size
 |f+1,p=>by
  have hz:=h.size
  have ih:=h.clnM d f (p+Proofs.YtkafjblfjdpdaaaGreatDoor.wd v p)
  unfold Proofs.YtkafjblfjdpdaaaGreatDoor.clnM
  rw[h.badC,h.wd,Nat.add_assoc,ih]
  by_cases h1:p<v.size
  ·rw[if_pos h1,if_pos (by omega)]
   split<;>rfl
  ·rw[if_neg h1,if_neg (by omega)];exact hz
theorem Suf.blkGo(h:Suf u k v): ∀f p,blkGo u f (k+p)=k+blkGo v f p
 |0,p=>rfl
 |f+1,p=>by
  have hz:=h.size
  have ih:=h.blkGo f (p+1)
  unfold Proofs.YtkafjblfjdpdaaaGreatDoor.blkGo
  rw[h.byt,Nat.add_assoc,ih]
  by_cases h1:p<v.size∧Proofs.YtkafjblfjdpdaaaGreatDoor.byt v p=32
  ·rw[if_pos h1,if_pos ⟨by omega,h1.2⟩]
  ·rw[if_neg h1,if_neg (fun hh=>h1 ⟨by omega,hh.2⟩)]
theorem Suf.blk(h:Suf u k v)(p:Nat):blk u (k+p)=k+blk v p:=by
 unfold Proofs.YtkafjblfjdpdaaaGreatDoor.blk
 rw[show u.size-(k+p)=v.size-p by have:=h.size;omega]
 exact h.blkGo _ p
theorem Suf.sgn(h:Suf u k v)(p c:Nat):sgn u (k+p) c=sgn v p c:=by
 have hz:=h.size
 unfold Proofs.YtkafjblfjdpdaaaGreatDoor.sgn
 rw[h.byt,Nat.add_assoc,h.byt]
 rw[show decide (k+p<u.size)=decide (p<v.size) from decide_eq_decide.2 (by omega),show decide (k+(p+1)=u.size)=decide (p+1=v.size) from decide_eq_decide.2 (by omega)]
theorem Suf.cmt(h:Suf u k v)(p:Nat)(hp:0<p∨Proofs.YtkafjblfjdpdaaaGreatDoor.byt v p≠35):cmt u (k+p)=cmt v p:=by
 by_cases h0:0<p
 ·unfold Proofs.YtkafjblfjdpdaaaGreatDoor.cmt
  rw[h.byt,show k+p-1=k+(p-1) by omega,h.byt,decide_eq_true h0,decide_eq_true (show 0<k+p by omega)]
 ·have h35:=hp.resolve_left h0
  rw[high_cmt h35,high_cmt (by rw[h.byt];exact h35)]
theorem Suf.keyGo(h:Suf u k v)(a:Nat): ∀f q,0<q∨Proofs.YtkafjblfjdpdaaaGreatDoor.byt v q≠35→keyGo u (k+a) f (k+q)=k+keyGo v a f q
 |0,q,_=>rfl
 |f+1,q,hq0=>by
  have hz:=h.size
  have ih:=h.keyGo a f (q+1) (.inl (by omega))
  unfold Proofs.YtkafjblfjdpdaaaGreatDoor.keyGo
  rw[h.cmt q hq0,h.sgn,Nat.add_assoc k q 1,ih]
  by_cases h1:q<v.size
  ·rw[if_pos h1,if_pos (by omega)]
   split
   ·rfl
   ·by_cases h2:a<q∧Proofs.YtkafjblfjdpdaaaGreatDoor.sgn v q 58=true
    ·rw[if_pos h2,if_pos ⟨by omega,h2.2⟩]
    ·rw[if_neg h2,if_neg (fun hh=>h2 ⟨by omega,hh.2⟩)]
  ·rw[if_neg h1,if_neg (by omega)]
theorem Suf.keyTo(h:Suf u k v)(a q:Nat)(hq0:0<q∨Proofs.YtkafjblfjdpdaaaGreatDoor.byt v q≠35):keyTo u (k+a) (k+q)=k+keyTo v a q:=by
 unfold Proofs.YtkafjblfjdpdaaaGreatDoor.keyTo
 rw[show u.size-(k+q)=v.size-q by have:=h.size;omega]
 exact h.keyGo a _ q hq0
theorem Suf.cmtGo(h:Suf u k v): ∀f q,0<q∨Proofs.YtkafjblfjdpdaaaGreatDoor.byt v q≠35→cmtGo u f (k+q)=k+cmtGo v f q
 |0,q,_=>h.size
 |f+1,q,hq0=>by
  have hz:=h.size
  have ih:=h.cmtGo f (q+1) (.inl (by omega))
  unfold Proofs.YtkafjblfjdpdaaaGreatDoor.cmtGo
  rw[h.cmt q hq0,Nat.add_assoc k q 1,ih]
  by_cases h1:q<v.size
  ·rw[if_pos h1,if_pos (by omega)]
   split<;>rfl
  ·rw[if_neg h1,if_neg (by omega)];exact hz
theorem Suf.cmtTo(h:Suf u k v)(q:Nat)(hq0:0<q∨Proofs.YtkafjblfjdpdaaaGreatDoor.byt v q≠35):cmtTo u (k+q)=k+cmtTo v q:=by
 unfold Proofs.YtkafjblfjdpdaaaGreatDoor.cmtTo
 rw[show u.size-(k+q)=v.size-q by have:=h.size;omega]
 exact h.cmtGo _ q hq0
theorem Suf.trm(h:Suf u k v)(a:Nat): ∀t,a≤t→trm u (k+a) (k+t)=k+trm v a t
 |0,hat=>by
  cases k with
  |zero=>rfl
  |succ k=>
   have e:Proofs.YtkafjblfjdpdaaaGreatDoor.trm u (k+1+a) (k+1)=k+1:=by rw[Proofs.YtkafjblfjdpdaaaGreatDoor.trm,if_neg (by omega)]
   rw[Nat.add_zero,e];rfl
 |t+1,hat=>by
  rw[show k+(t+1)=k+t+1 by omega,Proofs.YtkafjblfjdpdaaaGreatDoor.trm,Proofs.YtkafjblfjdpdaaaGreatDoor.trm,h.byt]
  by_cases h1:a<t+1∧Proofs.YtkafjblfjdpdaaaGreatDoor.byt v t=32
  ·rw[if_pos h1,if_pos ⟨by omega,h1.2⟩,h.trm a t (by omega)]
  ·rw[if_neg h1,if_neg (fun hh=>h1 ⟨by omega,hh.2⟩)];omega
theorem sglGo_fuel(s:ByteArray): ∀f g q acc,s.size≤q+f→s.size≤q+g→sglGo s f q acc=sglGo s g q acc
 |0,g,q,acc,h1,_=>by rw[sglGo_end (by omega),sglGo_end (by omega)]
 |f+1,0,q,acc,_,h2=>by rw[sglGo_end (by omega),sglGo_end (by omega)]
 |f+1,g+1,q,acc,h1,h2=>by
  by_cases hq':q<s.size
  ·unfold sglGo
   have hw:=wd_pos s q
   rw[sglGo_fuel s f g (q+2) (acc++[39]) (by omega) (by omega),sglGo_fuel s f g (q+wd s q) (acc++runeAt s q) (by omega) (by omega)]
  ·rw[sglGo_end hq',sglGo_end hq']
theorem Suf.sglGo(h:Suf u k v): ∀f q acc,sglGo u f (k+q) acc=((sglGo v f q acc).1,k+(sglGo v f q acc).2.1,(sglGo v f q acc).2.2)
 |0,q,acc=>by
  have hz:=h.size
  show([],u.size,2)=([],k+v.size,2)
  rw[hz]
 |f+1,q,acc=>by
  have hz:=h.size
  have i1:=h.sglGo f (q+2) (acc++[39])
  have i2:=h.sglGo f (q+Proofs.YtkafjblfjdpdaaaGreatDoor.wd v q) (acc++runeAt v q)
  unfold Proofs.YtkafjblfjdpdaaaGreatDoor.sglGo
  rw[h.byt,show k+q+1=k+(q+1) by omega,h.byt,h.wd,h.rune,Nat.add_assoc k q 2,Nat.add_assoc k q,i1,i2]
  by_cases h1:q<v.size
  ·rw[if_pos h1,if_pos (by omega)]
   by_cases h2:Proofs.YtkafjblfjdpdaaaGreatDoor.byt v q=39
   ·rw[if_pos h2,if_pos h2]
    by_cases h3:q+1<v.size∧Proofs.YtkafjblfjdpdaaaGreatDoor.byt v (q+1)=39
    ·rw[if_pos h3,if_pos ⟨by omega,h3.2⟩]
    ·rw[if_neg h3,if_neg (fun hh=>h3 ⟨by omega,hh.2⟩)]
   ·rw[if_neg h2,if_neg h2]
    by_cases h4:Proofs.YtkafjblfjdpdaaaGreatDoor.bad v q∨Proofs.YtkafjblfjdpdaaaGreatDoor.byt v q<32
    ·rw[if_pos h4,if_pos (by rw[h.bad];exact h4)]
    ·rw[if_neg h4,if_neg (by rw[h.bad];exact h4)]
  ·rw[if_neg h1,if_neg (by omega),hz]
theorem Suf.sglM(h:Suf u k v)(p:Nat)(hp:p≤v.size):sglM u ((k+p:Nat):Int)=((sglM v (p:Int)).1,k+(sglM v (p:Int)).2.1,(sglM v (p:Int)).2.2):=by
 have hz:=h.size
 unfold Proofs.YtkafjblfjdpdaaaGreatDoor.sglM
 have e1: ¬(((k+p:Nat):Int)<0∨(u.size:Int)<((k+p:Nat):Int)):=by omega
 have e2: ¬((p:Int)<0∨(v.size:Int)<(p:Int)):=by omega
 simp only[if_neg e1,if_neg e2,Int.toNat_natCast]
 rw[h.byt]
 by_cases h1:p=v.size∨Proofs.YtkafjblfjdpdaaaGreatDoor.byt v p≠39
 ·rw[if_pos h1,if_pos (h1.elim (fun h=> .inl (by omega)) .inr)]
 ·rw[if_neg h1,if_neg (fun hh=>h1 (hh.elim (fun h=> .inl (by omega)) .inr)),Nat.add_assoc,h.sglGo,sglGo_fuel v u.size v.size (p+1) [] (by omega) (by omega)]
theorem scanGo_fuel(s:ByteArray): ∀f g p acc,s.size≤p+f→s.size≤p+g→scanGo s f p acc=scanGo s g p acc:=by
 intro f
 induction f with
 |zero=>
  intro g p acc h1 h2
  cases g with
  |zero=>rfl
  |succ g=>unfold scanGo;rw[if_neg (by omega)]
 |succ f ih=>
  intro g p acc h1 h2
  cases g with
  |zero=>unfold scanGo;rw[if_neg (by omega)]
  |succ g=>
   unfold scanGo
   by_cases hp:p<s.size
   ·rw[if_pos hp,if_pos hp]
    split
    ·rfl
    ·cases hpm:partM s p with
     |none=>rfl
     |some x=>
      obtain⟨r,n⟩:=x
      have hbd:=partM_bd hp hpm
      exact ih g (p+n) (acc++[r]) (by omega) (by omega)
   ·rw[if_neg hp,if_neg hp]
theorem Suf.partM(h:Suf u k v)(p:Nat)(hp:p<v.size):partM u (k+p)=partM v p:=by
 have h2:=h.step p (Nat.le_of_lt hp)
 rw[←partM_sub v p hp,←partM_sub u (k+p) (by have:=h.size;omega),←h2.eq]
theorem Suf.scanGo(h:Suf u k v): ∀f p acc,scanGo u f (k+p) acc=(k+(scanGo v f p acc).1,(scanGo v f p acc).2.1,(scanGo v f p acc).2.2):=by
 intro f
 have hz:=h.size
 induction f with
 |zero=>
  intro p acc
  show(u.size,2,acc)=(k+v.size,2,acc)
  rw[hz]
 |succ f ih=>
  intro p acc
  unfold Proofs.YtkafjblfjdpdaaaGreatDoor.scanGo
  by_cases hp:p<v.size
  ·rw[if_pos hp,if_pos (by omega),h.byt,h.partM p hp]
   split
   ·rfl
   ·cases hpm:Proofs.YtkafjblfjdpdaaaGreatDoor.partM v p with
    |none=>rfl
    |some x=>
     obtain⟨r,n⟩:=x
     simp only
     rw[Nat.add_assoc,ih (p+n) (acc++[r])]
  ·rw[if_neg hp,if_neg (by omega),hz]
theorem Suf.scanM(h:Suf u k v)(p:Nat):scanM u (k+p)=(k+(scanM v p).1,(scanM v p).2.1,(scanM v p).2.2):=by
 have hz:=h.size
 unfold Proofs.YtkafjblfjdpdaaaGreatDoor.scanM
 rw[h.byt]
 by_cases h1:p<v.size∧Proofs.YtkafjblfjdpdaaaGreatDoor.byt v p=34
 ·rw[if_pos h1,if_pos ⟨by omega,h1.2⟩,Nat.add_assoc,h.scanGo,scanGo_fuel v u.size v.size (p+1) [] (by omega) (by omega)]
 ·rw[if_neg h1,if_neg (fun hh=>h1 ⟨by omega,hh.2⟩)]
theorem Suf.qtd(h:Suf u k v)(p:Nat)(hp:p≤v.size):qtd u (k+p)=(k+(qtd v p).1,(qtd v p).2.1,(qtd v p).2.2):=by
 have hz:=h.size
 unfold Proofs.YtkafjblfjdpdaaaGreatDoor.qtd
 rw[h.byt,h.scanM,h.sglM p hp]
 by_cases h1:p=v.size
 ·rw[if_pos h1,if_pos (by omega)]
 ·rw[if_neg h1,if_neg (by omega)]
  split
  ·rfl
  ·split<;>rfl
theorem Suf.look(h:Suf u k v)(p:Nat)(hp:p≤v.size):look u (k+p)=k+look v p:=by
 unfold Proofs.YtkafjblfjdpdaaaGreatDoor.look
 rw[h.qtd p hp]
 split<;>rfl
theorem Suf.ykeyM(h:Suf u k v)(p:Nat)(hp:p<v.size)(h35:Proofs.YtkafjblfjdpdaaaGreatDoor.byt v p≠35):ykeyM u (k+p)=(k+(ykeyM v p).1,(ykeyM v p).2):=by
 unfold Proofs.YtkafjblfjdpdaaaGreatDoor.ykeyM
 rw[h.qtd p (Nat.le_of_lt hp),h.byt,h.keyTo p p (.inr h35)]
 simp only
 rw[h.sgn]
 split
 ·split<;>rfl
 ·split<;>rfl
def upO(k:Nat):Option Nat→Option Nat
 |none=>none
 |some n=>some (k+n)
def upR(k:Nat)(x:(Nat×Nat)×Option Nat):(Nat×Nat)×Option Nat:=((k+x.1.1,k+x.1.2),upO k x.2)
def upD(k:Nat)(x:Nat×Option Nat×(Nat×Nat)×Option Nat):Nat×Option Nat×(Nat×Nat)×Option Nat:=(x.1,upO k x.2.1,upR k x.2.2)
theorem Suf.restM(h:Suf u k v)(p:Nat)(hp:p≤v.size)(h35:0<p∨Proofs.YtkafjblfjdpdaaaGreatDoor.byt v p≠35):restM u (k+p)=upR k (restM v p):=by
 have hz:=h.size
 have hbl:=blk_le v p hp
 have hlk:=look_bd v (Proofs.YtkafjblfjdpdaaaGreatDoor.blk v p) hbl
 have hc0:0<Proofs.YtkafjblfjdpdaaaGreatDoor.look v (Proofs.YtkafjblfjdpdaaaGreatDoor.blk v p)∨Proofs.YtkafjblfjdpdaaaGreatDoor.byt v (Proofs.YtkafjblfjdpdaaaGreatDoor.look v (Proofs.YtkafjblfjdpdaaaGreatDoor.blk v p))≠35:=by
  by_cases h0:0<Proofs.YtkafjblfjdpdaaaGreatDoor.look v (Proofs.YtkafjblfjdpdaaaGreatDoor.blk v p)
  ·exact .inl h0
  ·right
   have hb0:=blk_ge v p
   rw[show Proofs.YtkafjblfjdpdaaaGreatDoor.look v (Proofs.YtkafjblfjdpdaaaGreatDoor.blk v p)=p by omega]
   exact h35.resolve_left (by omega)
 have hct:=h.cmtTo _ hc0
 have hcg:=cmtTo_ge v _ hlk.2
 unfold Proofs.YtkafjblfjdpdaaaGreatDoor.restM upR
 rw[h.blk,h.look _ hbl,hct,h.trm _ _ (by omega)]
 by_cases h1:Proofs.YtkafjblfjdpdaaaGreatDoor.cmtTo v (Proofs.YtkafjblfjdpdaaaGreatDoor.look v (Proofs.YtkafjblfjdpdaaaGreatDoor.blk v p))<v.size
 ·rw[if_pos h1,if_pos (by omega)];rfl
 ·rw[if_neg h1,if_neg (by omega)];rfl
theorem Suf.lineD(h:Suf u k v)(p:Nat)(hp:p≤v.size):lineD u (k+p)=(lineD v p).map (upD k):=by
 have hz:=h.size
 unfold Proofs.YtkafjblfjdpdaaaGreatDoor.lineD
 rw[h.byt,h.sgn]
 by_cases h1:p=v.size
 ·rw[if_pos h1,if_pos (by omega)];rfl
 ·rw[if_neg h1,if_neg (by omega)]
  by_cases h35:Proofs.YtkafjblfjdpdaaaGreatDoor.byt v p=35
  ·rw[if_pos h35,if_pos h35];rfl
  ·rw[if_neg h35,if_neg h35,h.ykeyM p (by omega) h35]
   by_cases h45:Proofs.YtkafjblfjdpdaaaGreatDoor.sgn v p 45=true
   ·rw[if_pos h45,if_pos h45,Nat.add_assoc,h.restM (p+1) (by omega) (.inl (by omega))];rfl
   ·rw[if_neg h45,if_neg h45]
    simp only
    by_cases hk:(Proofs.YtkafjblfjdpdaaaGreatDoor.ykeyM v p).2=false
    ·rw[if_pos hk,if_pos hk];rfl
    ·rw[if_neg hk,if_neg hk]
     have hkb:=keyM_bd v p (by omega)
     by_cases hlt:p<(Proofs.YtkafjblfjdpdaaaGreatDoor.ykeyM v p).1
     ·rw[if_pos hlt,if_pos (by omega),Nat.add_assoc,h.restM _ (by have:=(hkb.2.2 hlt).2.1;omega) (.inl (by omega))];rfl
     ·rw[if_neg hlt,if_neg (by omega),h.restM p hp (.inr h35)];rfl
end
end Go.Proofs.YtkafjblfjdpdaaaGreatDoor
