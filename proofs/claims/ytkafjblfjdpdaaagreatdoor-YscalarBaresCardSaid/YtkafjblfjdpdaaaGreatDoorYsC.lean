/-
  PLAIN MATHEMATICS: strings in single quotes; what stands in single quotes is read, wherever it stands.
  PLAIN MATHEMATICS: what stands in one line of YAML: bare texts, what they are, what is read, what is written; what is written is read.
-/
import Derived.Test.YtkafjblfjdpdaaaGreatDoorYlM
namespace Go.Proofs.YtkafjblfjdpdaaaGreatDoor
open Go.RowKit
def subst1(c:UInt8)(new:Bs)(l:Bs):Bs:=l.flatMap fun b=>if b=c then new else [b]
theorem subst1_none {c:UInt8} {new l:Bs} (h:l.count c=0):subst1 c new l=l:=by
 unfold subst1
 have hn: ∀b∈l,b≠c:=fun b hb e=>by
  have:=List.count_eq_zero.1 h
  rw[e]at hb
  exact this hb
 induction l with
 |nil=>rfl
 |cons b l ih=>
  rw[List.flatMap_cons,if_neg (hn b (by simp)),ih (by
   rw[List.count_cons]at h;omega) (fun x hx=>hn x (by simp[hx]))]
  rfl
def dblB(l:Bs):Bs:=subst1 39 [39,39] l
def quotedM(s:ByteArray):Bs×Int:=if cleanM s false=s.size then(39::dblB s.data.toList++[39],0) else([],2)
theorem dblB_len: ∀l:Bs,(dblB l).length≤2*l.length
 | []=>Nat.le_refl _
 |b::l=>by
  have:=dblB_len l
  unfold dblB subst1 at *
  rw[List.flatMap_cons,List.length_append,List.length_cons]
  split<;>simp only[List.length_cons,List.length_nil]<;>omega
theorem vld_clean(s:ByteArray): ∀f p,s.size≤p+f→(vld s f p).2=false→clnM s false f p<s.size
 |0,p,h,h2=>by cases h2
 |f+1,p,h,h2=>by
  by_cases hp:p<s.size
  ·by_cases hb:bad s p
   ·rw[clnM_bad s false f p hp (by unfold badC;rw[decide_eq_true hb];rfl)];exact hp
   ·unfold vld at h2
    rw[if_pos hp,if_neg hb]at h2
    have hw:=wd_pos s p
    have:=vld_clean s f (p+wd s p) (by omega) h2
    cases hc:badC s false p with
    |true=>rw[clnM_bad s false f p hp hc];exact hp
    |false=>rw[clnM_step s false f p hp hc];exact this
  ·rw[vld_end s (f+1) p hp]at h2;cases h2
theorem clean_round(s:ByteArray)(f p:Nat)(h:p<s.size)(hb: ¬bad s p):clnM s false (f+1) p=if byt s p<32 then p else clnM s false f (p+wd s p):=by
 split
 ·rename_i h32
  exact clnM_bad s false f p h (by unfold badC;rw[decide_eq_true h32];simp)
 ·rename_i h32
  exact clnM_step s false f p h (by unfold badC;rw[decide_eq_false h32,decide_eq_false hb];rfl)
theorem drop_cons {t:ByteArray} {k:Nat} {x:UInt8} {l:Bs} (h:t.data.toList.drop k=x::l):k<t.size∧byt t k=x.toNat∧t.data.toList.drop (k+1)=l:=by
 have hlen:t.data.toList.length=t.size:=Array.length_toList
 have hk:k<t.data.toList.length:=by
  have:=congrArg List.length h
  rw[List.length_drop,List.length_cons]at this
  omega
 have hg:=List.drop_eq_getElem_cons hk
 rw[hg]at h
 injection h with h1 h2
 refine⟨by omega,?_,h2⟩
 rw[byt_eq t k (by omega),←h1];rfl
theorem drop_bytes {t:ByteArray}: ∀ {l:Bs} {k:Nat} {r:Bs},t.data.toList.drop k=l++r→ ∀j (hj:j<l.length),byt t (k+j)=(l[j]'hj).toNat
 | [],k,r,_,j,hj=>absurd hj (Nat.not_lt_zero j)
 |x::l,k,r,h,j,hj=>by
  obtain⟨h1,h2,h3⟩:=drop_cons h
  cases j with
  |zero=>exact h2
  |succ j=>
   rw[show k+(j+1)=k+1+j by omega]
   exact drop_bytes h3 j (by simpa using hj)
theorem rune_split(s:ByteArray)(p:Nat):s.data.toList.drop p=runeAt s p++s.data.toList.drop (p+wd s p):=by
 unfold runeAt
 rw[←List.drop_drop,List.take_append_drop]
theorem rune_byte(s:ByteArray)(p:Nat)(hp:p<s.size)(j:Nat)(hj:j<wd s p):byt s (p+j)=((runeAt s p)[j]'(by rw[runeAt_len s p hp];exact hj)).toNat:=
 drop_bytes (rune_split s p) j (by rw[runeAt_len s p hp];exact hj)
theorem dblB_app(a b:Bs):dblB (a++b)=dblB a++dblB b:=by unfold dblB subst1;exact List.flatMap_append
theorem dblB_no {l:Bs} (h: ∀b∈l,b≠39):dblB l=l:=subst1_none (by
 rw[List.count_eq_zero]
 exact fun hh=>h 39 hh rfl)
theorem rune_no(s:ByteArray)(p:Nat)(hp:p<s.size)(h:byt s p≠39): ∀b∈runeAt s p,b≠39:=by
 intro b hb e
 obtain⟨j,hj,hbj⟩:=List.mem_iff_getElem.1 hb
 rw[runeAt_len s p hp]at hj
 have hbj2:=rune_byte s p hp j hj
 rw[hbj,e]at hbj2
 by_cases h0:j=0
 ·subst h0;exact h hbj2
 ·have:=wd_cont s p j (by omega) hj
  rw[hbj2]at this
  exact absurd this (by decide)
theorem single_back(s t:ByteArray)(rest:Bs)(hr: ∀l,rest≠39::l): ∀(f p k g:Nat) (acc:Bs),(vld s f p).2=true→(∀i,p≤i→i<s.size→32≤byt s i)→p≤s.size→s.size≤p+f→
 t.data.toList.drop k=dblB (s.data.toList.drop p)++39::rest→t.size≤k+g→sglGo t g k acc=(acc++s.data.toList.drop p,k+(dblB (s.data.toList.drop p)).length+1,0):=by
 have fin: ∀(p k g:Nat) (acc:Bs),p=s.size→t.data.toList.drop k=dblB (s.data.toList.drop p)++39::rest→t.size≤k+g→sglGo t g k acc=(acc++s.data.toList.drop p,k+(dblB (s.data.toList.drop p)).length+1,0):=by
  intro p k g acc hp h hg
  have hnil:s.data.toList.drop p=[]:=List.drop_eq_nil_of_le (by rw[Array.length_toList,hp];exact Nat.le_refl _)
  rw[hnil]at h ⊢
  obtain⟨h1,h2,h3⟩:=drop_cons (show t.data.toList.drop k=39::rest from h)
  obtain⟨g,rfl⟩: ∃g',g=g'+1:=⟨g-1,by omega⟩
  have hn: ¬(k+1<t.size∧byt t (k+1)=39):=by
   rintro ⟨q1,q2⟩
   cases rest with
   |nil=>
    have:=congrArg List.length h3
    rw[List.length_drop,Array.length_toList,List.length_nil]at this
    have e:t.data.size=t.size:=rfl
    omega
   |cons x l=>
    have q3:=(drop_cons h3).2.1
    rw[q2]at q3
    exact hr l (by rw[show x=39 from(UInt8.toNat_inj.1 q3.symm)])
  rw[sglGo_ok h1 (by rw[h2];rfl) hn,List.append_nil]
  rfl
 intro f
 induction f with
 |zero=>
  intro p k g acc _ _ hp hf h hg
  exact fin p k g acc (by omega) h hg
 |succ f ih=>
  intro p k g acc hv hc hp hf h hg
  by_cases hps:p<s.size
  ·have hnb: ¬bad s p:=fun hb=>by
    unfold vld at hv
    rw[if_pos hps,if_pos hb]at hv
    cases hv
   have hvn:(vld s f (p+wd s p)).2=true:=by
    unfold vld at hv
    rw[if_pos hps,if_neg hnb]at hv
    exact hv
   have hw:=wd_pos s p
   have hwl:=wd_le s p hps
   have hsp:=rune_split s p
   have h32:=hc p (Nat.le_refl _) hps
   by_cases h39:byt s p=39
   ·have hru:runeAt s p=[39]:=by rw[runeAt_low s p hps (by omega),h39];rfl
    have hw1:wd s p=1:=wd_low s p (by omega)
    rw[hru,hw1]at hsp
    have hd:dblB (s.data.toList.drop p)=39::39::dblB (s.data.toList.drop (p+1)):=by rw[hsp,dblB_app];rfl
    rw[hd]at h ⊢
    obtain⟨a1,a2,a3⟩:=drop_cons (show t.data.toList.drop k=39::(39::(dblB (s.data.toList.drop (p+1))++39::rest)) from h)
    obtain⟨b1,b2,b3⟩:=drop_cons a3
    obtain⟨g,rfl⟩: ∃g',g=g'+1:=⟨g-1,by omega⟩
    rw[sglGo_two a1 (by rw[a2];rfl) b1 (by rw[b2];rfl)]
    rw[hw1]at hvn
    rw[ih (p+1) (k+2) g (acc++[39]) hvn (fun i h1 h2=>hc i (by omega) h2) (by omega) (by omega) b3 (by omega),hsp]
    simp only[List.length_cons,List.append_assoc,List.cons_append,List.nil_append,Prod.mk.injEq,and_true,true_and]
    omega
   ·have hd:dblB (s.data.toList.drop p)=runeAt s p++dblB (s.data.toList.drop (p+wd s p)):=by
     rw[hsp,dblB_app,dblB_no (rune_no s p hps h39)]
    have hrl:=runeAt_len s p hps
    rw[hd,List.append_assoc]at h
    have hby: ∀j,j<wd s p→byt t (k+j)=byt s (p+j):=fun j hj=>by
     rw[rune_byte s p hps j hj]
     exact drop_bytes h j (by rw[hrl];exact hj)
    have hlen:=congrArg List.length h
    rw[List.length_drop,Array.length_toList,List.length_append,hrl,List.length_append,List.length_cons]at hlen
    have hts:t.data.size=t.size:=rfl
    have hkt:k+wd s p<t.size:=by omega
    have hdec:=dec_same s t p k hnb (by omega) hby
    have hwt:wd t k=wd s p:=by unfold wd;rw[hdec]
    have hbt: ¬bad t k:=by unfold bad at hnb ⊢;rw[hdec];exact hnb
    have hk0:byt t k=byt s p:=hby 0 (by omega)
    have hdr:t.data.toList.drop (k+wd s p)=dblB (s.data.toList.drop (p+wd s p))++39::rest:=by
     rw[←List.drop_drop,h,List.drop_left' hrl]
    have hrt:runeAt t k=runeAt s p:=by
     unfold runeAt at hrl ⊢
     rw[hwt]
     show(t.data.toList.drop k).take (wd s p)=_
     rw[h]
     exact List.take_left' hrl
    obtain⟨g,rfl⟩: ∃g',g=g'+1:=⟨g-1,by omega⟩
    rw[sglGo_rune (by omega) (by omega) (fun hh=>hh.elim hbt (fun h=>by omega)),hwt,hrt]
    rw[ih (p+wd s p) (k+wd s p) g (acc++runeAt s p) hvn (fun i h1 h2=>hc i (by omega) h2) hwl (by omega) hdr (by omega),hd]
    rw[List.append_assoc,←hsp,List.length_append,hrl]
    simp only[Prod.mk.injEq,and_true,true_and]
    omega
  ·exact fin p k g acc (by omega) h hg
theorem sgl_quoted(s F B:ByteArray)(h:cleanM s false=s.size)(hb: ∀l,B.data.toList≠39::l):
 sglM (F++st (39::dblB s.data.toList++[39])++B) (F.size:Int)=(s.data.toList,F.size+(39::dblB s.data.toList++[39]).length,0):=by
 have hl:(F++st (39::dblB s.data.toList++[39])++B).data.toList=F.data.toList++(39::(dblB s.data.toList++39::B.data.toList)):=by
  simp[st]
 have hd:(F++st (39::dblB s.data.toList++[39])++B).data.toList.drop F.size=39::(dblB s.data.toList++39::B.data.toList):=by
  rw[hl]
  exact List.drop_left' Array.length_toList
 generalize F++st (39::dblB s.data.toList++[39])++B=t at *
 obtain⟨h1,h2,h3⟩:=drop_cons hd
 obtain⟨c1,c2⟩:=clnM_ok s false s.size 0 (by omega) (Nat.zero_le _) h
 have key:=single_back s t B.data.toList hb s.size 0 (F.size+1) t.size [] c2 (fun i _ hi=>(c1 i (Nat.zero_le _) hi).1) (Nat.zero_le _) (by omega) h3 (by omega)
 have e1: ¬((F.size:Int)<0∨(t.size:Int)<(F.size:Int)):=by omega
 have e2: ¬(F.size=t.size∨byt t F.size≠39):=fun hh=>hh.elim (fun h=>by omega) (fun h=>h (by rw[h2];rfl))
 unfold sglM
 simp only[if_neg e1,Int.toNat_natCast,if_neg e2]
 rw[key,List.drop_zero,List.nil_append]
 simp only[List.length_append,List.length_cons,List.length_nil,Prod.mk.injEq,and_true,true_and]
 omega
end Go.Proofs.YtkafjblfjdpdaaaGreatDoor
namespace Go.Proofs.YtkafjblfjdpdaaaGreatDoor
open Go.RowKit
def plainL(l:Bs):Bool:=l.all fun c=>decide (32≤c.toNat)&&decide (c≠127)
def midL:UInt8→Bs→Bool
 |_,[]=>true
 |p,c::r=>(!(p==58&&c==32)&&!(p==32&&c==35))&&midL c r
def signsL:Bs:=[63,58,44,91,93,123,125,35,38,42,33,124,62,39,34,37,64,96,32]
def headL:Bs→Bool
 | []=>false
 |c::r=> !signsL.contains c&&!(c==45&&(decide (r=[])||r.head?==some 32))
def bareL(l:Bs):Bool:=(valid (st l)).2&&(headL l&&(decide (lastB 0 l≠32∧lastB 0 l≠58)&&(plainL l&&midL 0 l)))
def resolveL(l:Bs):Vl:=
 if l=[]∨l=[110,117,108,108]∨l=[126] then .mk 1 [] [] []
 else if l=[116,114,117,101]∨l=[102,97,108,115,101] then .mk 2 l [] []
 else if (parseM l).2=0 then .mk 3 (textM (parseM l).1) [] []
 else .mk 4 l [] []
def quotL(l:Bs):Bs×Int:=
 if l.head?=some 34 then((unquoteM (st l)).1,(unquoteM (st l)).2.2)
 else if (sglM (st l) 0).2.2=0∧(sglM (st l) 0).2.1=l.length then((sglM (st l) 0).1,0) else([],2)
def RdOf(l:Bs)(v:Vl)(er:Int):Prop:=
 match l with
 | []=>v=resolveL []∧er=0
 |c::_=>
  if c=34∨c=39 then er=(quotL l).2∧v=(if (quotL l).2=0 then .mk 4 (quotL l).1 [] [] else zV)
  else if c=91∨c=123 then(match jparseM (st l) with| .inl q=>v=zV∧er=q.2| .inr ns=>er=0∧Rv (st l) ns 32 0 v ns.length)
  else if bareL l=true then v=resolveL l∧er=0
  else v=zV∧er=2
def inQ(s d:Bs):Bs:=if plainL s=true then(quotedM (st s)).1 else safeL 0 d
def writeL(v:Vl):Bs×Int:=
 if rightM v=true then(if v.k=4 then(if bareL v.t=true∧(resolveL v.t).k=4 then v.t else inQ v.t (prB false 0 0 v)) else safeL 0 (prB false 0 0 v),0) else([],1)
def keyL(l:Bs):Bs×Int:=
 match l with
 | []=>([],2)
 |c::_=>if c=34∨c=39 then quotL l else if bareL l=true then(l,0) else([],2)
def writeKeyL(s:Bs):Bs×Int:=if (valid (st s)).2=true then(if bareL s=true then s else inQ s (qtB s),0) else([],2)
theorem bare_parts {l:Bs} (h:bareL l=true):(valid (st l)).2=true∧headL l=true∧lastB 0 l≠32∧lastB 0 l≠58∧plainL l=true∧midL 0 l=true:=by
 unfold bareL at h
 simp only[Bool.and_eq_true,decide_eq_true_eq]at h
 exact⟨h.1,h.2.1,h.2.2.1.1,h.2.2.1.2,h.2.2.2.1,h.2.2.2.2⟩
theorem bare_first {l:Bs} (h:bareL l=true): ∃c r,l=c::r∧c≠34∧c≠39∧c≠91∧c≠123:=by
 have h1:=(bare_parts h).2.1
 cases l with
 |nil=>cases h1
 |cons c r=>
  refine⟨c,r,rfl,?_⟩
  unfold headL at h1
  simp only[Bool.and_eq_true,Bool.not_eq_true']at h1
  have h2:=h1.1
  refine⟨?_,?_,?_,?_⟩
  all_goals (rintro rfl;exact absurd h2 (by decide))
theorem read_bare {l:Bs} (h:bareL l=true):RdOf l (resolveL l) 0:=by
 obtain⟨c,r,rfl,h1,h2,h3,h4⟩:=bare_first h
 unfold RdOf
 simp only
 rw[if_neg (by simp[h1,h2]),if_neg (by simp[h3,h4]),if_pos h]
 exact⟨trivial,trivial⟩
theorem key_bare {l:Bs} (h:bareL l=true):keyL l=(l,0):=by
 obtain⟨c,r,rfl,h1,h2,h3,h4⟩:=bare_first h
 unfold keyL
 simp only
 rw[if_neg (by simp[h1,h2]),if_pos h]
theorem encU_low {c:UInt8} (h:c.toNat<128):encB c.toNat=[c]:=by
 unfold encB
 rw[Lib.encodeRuneZ_one (by omega) (by omega)]
 simp
theorem num_bytes {c:UInt8} (h:numD c=true):32<c.toNat∧c.toNat<128∧c≠127∧c≠58∧c≠35:=by
 have key: ∀n:Nat,n<256→numD (UInt8.ofNat n)=true→32<n∧n<128∧UInt8.ofNat n≠127∧UInt8.ofNat n≠58∧UInt8.ofNat n≠35:=by decide+kernel
 have:=key c.toNat (UInt8.toNat_lt c)
 rw[UInt8.ofNat_toNat]at this
 exact this h
theorem last_in: ∀ {l:Bs} (p:UInt8),l≠ []→lastB p l∈l
 | [],_,h=>absurd rfl h
 | [c],_,_=>by simp[lastB]
 |c::d::l,p,_=>by
  have:=last_in (l:=d::l) c (by simp)
  exact List.mem_cons_of_mem _ this
theorem single_read {t:Bs} (h:cleanM (st t) false=(st t).size):quotL (39::dblB t++[39])=(t,0):=by
 have e:=sgl_quoted (st t) (st []) (st []) h (fun l hl=>by rw[st_list]at hl;cases hl)
 rw[st_list]at e
 have e2:st []++st (39::dblB t++[39])++st []=st (39::dblB t++[39]):=by
  rw[cat_bytes,cat_bytes,List.nil_append,List.append_nil]
 rw[e2]at e
 have e3:((st []).size:Int)=0:=rfl
 rw[e3]at e
 unfold quotL
 rw[if_neg (by simp),e]
 have e4:(st []).size=0:=rfl
 simp only[e4,Nat.zero_add]
 rw[if_pos ⟨trivial,trivial⟩]
end Go.Proofs.YtkafjblfjdpdaaaGreatDoor
