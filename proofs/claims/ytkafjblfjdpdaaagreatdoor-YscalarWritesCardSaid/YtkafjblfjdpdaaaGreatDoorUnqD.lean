/-
  PLAIN MATHEMATICS: what is quoted is unquoted; what is unquoted is UTF-8.
-/
import Derived.Test.YtkafjblfjdpdaaaGreatDoorUnv
import Derived.Test.YtkafjblfjdpdaaaGreatDoorQuoteQ
namespace Go.Proofs.YtkafjblfjdpdaaaGreatDoor
open Go.RowKit
def At(t:ByteArray)(k:Nat)(l:Bs):Prop:= ∃rest,t.data.toList.drop k=l++rest
theorem At.cons {t:ByteArray} {k:Nat} {x:UInt8} {l:Bs} (h:At t k (x::l)):k<t.size∧byt t k=x.toNat∧At t (k+1) l:=by
 obtain⟨r,hr⟩:=h
 have hk:k<t.data.toList.length:=by
  rcases Nat.lt_or_ge k t.data.toList.length with h|h
  ·exact h
  ·rw[List.drop_eq_nil_of_le h]at hr;cases hr
 rw[List.drop_eq_getElem_cons hk,List.cons_append]at hr
 injection hr with h1 h2
 have hk2:k<t.size:=by rw[Array.length_toList]at hk;exact hk
 refine⟨hk2,?_,r,h2⟩
 rw[byt_eq t k hk2,←h1]
 rfl
theorem At.skip {t:ByteArray}: ∀ {a b:Bs} {k:Nat},At t k (a++b)→At t (k+a.length) b
 | [],b,k,h=>h
 |x::a,b,k,h=>by
  have:=(At.cons h).2.2.skip
  rwa [show k+1+a.length=k+(x::a).length by simp;omega]at this
theorem At.take {t:ByteArray} {a b:Bs} {k:Nat} (h:At t k (a++b)):At t k a:=by
 obtain⟨r,hr⟩:=h
 exact⟨b++r,by rw[hr,List.append_assoc]⟩
theorem At.le {t:ByteArray}: ∀ {a:Bs} {k:Nat},At t k a→k≤t.size→k+a.length≤t.size
 | [],k,_,hk=>hk
 |x::a,k,h,_=>by
  have h1:=At.cons h
  have:=At.le h1.2.2 (by omega)
  simp;omega
theorem At.get {t:ByteArray}: ∀ {a:Bs} {k:Nat},At t k a→ ∀j (hj:j<a.length),byt t (k+j)=(a[j]'hj).toNat
 | [],k,_,j,hj=>absurd hj (by simp)
 |x::a,k,h,0,hj=>(At.cons h).2.1
 |x::a,k,h,j+1,hj=>by
  have:=At.get (At.cons h).2.2 j (by simpa using hj)
  rw[show k+(j+1)=k+1+j by omega,this]
  rfl
theorem low_esc(t:ByteArray)(k c:Nat)(hc:c<128)(h:At t k (qb (UInt8.ofNat c))):byt t k≠34∧partM t k=some (c,(qb (UInt8.ofNat c)).length):=by
 have key: ∀c:Nat,c<128→
  (∃x:UInt8,qb (UInt8.ofNat c)=[92,x]∧((x.toNat=34∨x.toNat=92∨x.toNat=47)∧x.toNat=c∨x.toNat=98∧c=8∨x.toNat=102∧c=12∨x.toNat=110∧c=10∨x.toNat=114∧c=13∨x.toNat=116∧c=9))
  ∨(∃x y:UInt8,qb (UInt8.ofNat c)=[92,117,48,48,x,y]∧hex4 48 48 x.toNat y.toNat=some c∧c<55296)
  ∨(qb (UInt8.ofNat c)=[UInt8.ofNat c]∧32≤c∧c≠34∧c≠92):=by
  intro c hc
  by_cases h1:c=34∨c=92∨c=8∨c=12∨c=10∨c=13∨c=9
  ·left
   rcases h1 with rfl|rfl|rfl|rfl|rfl|rfl|rfl
   ·exact ⟨34,by decide,by decide⟩
   ·exact ⟨92,by decide,by decide⟩
   ·exact ⟨98,by decide,by decide⟩
   ·exact ⟨102,by decide,by decide⟩
   ·exact ⟨110,by decide,by decide⟩
   ·exact ⟨114,by decide,by decide⟩
   ·exact ⟨116,by decide,by decide⟩
  ·right
   by_cases h2:c<32
   ·left
    refine⟨hexd (c/16),hexd (c%16),?_,?_,by omega⟩
    ·have: ∀c:Nat,c<32→ ¬(c=34∨c=92∨c=8∨c=12∨c=10∨c=13∨c=9)→qb (UInt8.ofNat c)=[92,117,48,48,hexd (c/16),hexd (c%16)]:=by decide+kernel
     exact this c h2 h1
    ·have: ∀c:Nat,c<32→hex4 48 48 (hexd (c/16)).toNat (hexd (c%16)).toNat=some c:=by decide+kernel
     exact this c h2
   ·right
    have: ∀c:Nat,c<128→32≤c→c≠34→c≠92→qb (UInt8.ofNat c)=[UInt8.ofNat c]:=by decide+kernel
    exact⟨this c hc (by omega) (by omega) (by omega),by omega,by omega,by omega⟩
 rcases key c hc with ⟨x,e,hx⟩|⟨x,y,e,hx,h5⟩|⟨e,h32,h34,h92⟩
 ·rw[e]at h ⊢
  obtain⟨k1,b1,h⟩:=h.cons
  obtain⟨k2,b2,_⟩:=h.cons
  have b1':byt t k=92:=b1
  refine⟨by omega,?_⟩
  unfold partM escM
  rw[if_pos b1',if_neg (by omega),b2]
  show _=some (c,2)
  rcases hx with ⟨hx,rfl⟩|⟨hx,rfl⟩|⟨hx,rfl⟩|⟨hx,rfl⟩|⟨hx,rfl⟩|⟨hx,rfl⟩
  ·rw[if_pos hx]
  all_goals (rw[hx];rfl)
 ·rw[e]at h ⊢
  obtain⟨k1,b1,h⟩:=h.cons
  obtain⟨k2,b2,h⟩:=h.cons
  obtain⟨k3,b3,h⟩:=h.cons
  obtain⟨k4,b4,h⟩:=h.cons
  obtain⟨k5,b5,h⟩:=h.cons
  obtain⟨k6,b6,h⟩:=h.cons
  have b1':byt t k=92:=b1
  have b2':byt t (k+1)=117:=b2
  have b3':byt t (k+2)=48:=b3
  have b4':byt t (k+3)=48:=b4
  have b5':byt t (k+4)=x.toNat:=b5
  have b6':byt t (k+5)=y.toNat:=b6
  refine⟨by omega,?_⟩
  have hu:uni t k=some c:=by
   unfold uni
   rw[if_pos ⟨by omega,b1',b2'⟩,b3',b4',b5',b6',hx]
  have he:escU t k=some (c,6):=by
   unfold escU
   rw[hu]
   simp only
   rw[if_neg (by omega),if_pos (by omega)]
  unfold partM escM
  rw[if_pos b1',if_neg (by omega),b2',he]
  rfl
 ·rw[e]at h ⊢
  obtain⟨k1,b1,h⟩:=h.cons
  have hn:(UInt8.ofNat c).toNat=c:=UInt8.toNat_ofNat_of_lt' (show c<256 by omega)
  rw[hn]at b1
  have hd:=dec_low t k (by omega)
  rw[b1]at hd
  refine⟨by omega,?_⟩
  unfold partM
  rw[if_neg (by omega),if_neg (by omega),if_neg (by unfold bad;rw[hd];simp only;omega),hd]
  rfl
theorem part_at(s t:ByteArray)(p k:Nat)(hp:p<s.size)(hb: ¬bad s p)(h:At t k (partAt s p)):byt t k≠34∧partM t k=some ((Utf8.decode s p).1,(partAt s p).length):=by
 unfold partAt at h ⊢
 by_cases hlow:byt s p<128
 ·rw[if_pos hlow]at h ⊢
  rw[dec_low s p hlow]
  exact low_esc t k _ hlow h
 ·rw[if_neg hlow]at h ⊢
  have hlen:=runeAt_len s p hp
  have hwp:=wd_pos s p
  have hk:k<t.size:=by
   cases hr:runeAt s p with
   |nil=>rw[hr]at hlen;simp at hlen;omega
   |cons x l=>rw[hr]at h;exact h.cons.1
  have hle:=h.le (by omega)
  have hg: ∀j,j<wd s p→byt t (k+j)=byt s (p+j):=fun j hj=>by
   rw[h.get j (by omega)]
   have hle2:=wd_le s p hp
   rw[byt_eq s (p+j) (by omega)]
   simp only[runeAt,List.getElem_take,List.getElem_drop]
   rfl
  have hd:=dec_same s t p k hb (by omega) hg
  have h0:=hg 0 hwp
  rw[Nat.add_zero,Nat.add_zero]at h0
  refine⟨by omega,?_⟩
  unfold partM
  rw[if_neg (by omega),if_neg (by omega),if_neg (by unfold bad at hb ⊢;rw[hd];exact hb),hd,hlen]
  rfl
theorem drop_rune(s:ByteArray)(p:Nat):s.data.toList.drop p=runeAt s p++s.data.toList.drop (p+wd s p):=by
 unfold runeAt
 rw[←List.drop_drop,List.take_append_drop]
theorem quoteB_drop(s:ByteArray)(p:Nat)(h:p<s.size):quoteB (s.data.toList.drop p)=partAt s p++quoteB (s.data.toList.drop (p+wd s p)):=by
 rw[drop_rune s p,quoteB_app]
 congr 1
 unfold partAt
 by_cases hb:byt s p<128
 ·rw[if_pos hb,runeAt_low s p h hb]
  show qb _++[]=_
  rw[List.append_nil]
 ·rw[if_neg hb]
  exact quoteB_high _ (runeAt_high s p h (by omega))
theorem byteCells_inj: ∀ {a b:Bs},Lib.byteCells a=Lib.byteCells b→a=b
 | [],[],_=>rfl
 | [],_::_,h=>by cases h
 |_::_,[],h=>by cases h
 |x::a,y::b,h=>by
  simp only[Lib.byteCells,List.map_cons,List.cons.injEq,Value.int.injEq,true_and]at h
  rw[byteCells_inj (a:=a) (b:=b) h.2,UInt8.toNat_inj.1 (by omega:x.toNat=y.toNat)]
theorem encB_at(s:ByteArray)(p:Nat)(h:p<s.size)(hb: ¬bad s p):encB (Utf8.decode s p).1=runeAt s p:=
 byteCells_inj ((runeCells_encB _).symm.trans (runeCells_at s p h hb))
theorem scan_quoted(s t:ByteArray): ∀(f p k g:Nat),(vld s f p).2=true→p≤s.size→s.size≤p+f→At t k (quoteB (s.data.toList.drop p)++[34])→t.size≤k+g→
 ∃rs,encAll rs=s.data.toList.drop p∧ ∀acc,scanGo t g k acc=(k+(quoteB (s.data.toList.drop p)).length+1,0,acc++rs):=by
 intro f
 induction f with
 |zero=>
  intro p k g _ hp hf hat hg
  have hnil:s.data.toList.drop p=[]:=List.drop_eq_nil_of_le (by rw[Array.length_toList];exact hf)
  rw[hnil]at hat ⊢
  obtain⟨hk,hb,_⟩:=At.cons (x:=34) (l:=[]) hat
  refine⟨[],rfl,fun acc=> ?_⟩
  obtain⟨g,rfl⟩: ∃i,g=i+1:=⟨g-1,by omega⟩
  rw[scanGo,if_pos hk,if_pos (show byt t k=34 from hb),List.append_nil]
  rfl
 |succ f ih=>
  intro p k g hv hp hf hat hg
  by_cases hps:p<s.size
  ·have hnb: ¬bad s p:=fun h=>by
    rw[vld_bad s f p hps h]at hv
    cases hv
   rw[vld_step s f p hps hnb]at hv
   have hwp:=wd_pos s p
   have hwl:=wd_le s p hps
   rw[quoteB_drop s p hps]at hat ⊢
   rw[List.append_assoc]at hat
   obtain⟨h34,hpart⟩:=part_at s t p k hps hnb hat.take
   obtain⟨rs,hrs,hsc⟩:=ih (p+wd s p) (k+(partAt s p).length) (g-1) hv hwl (by omega) hat.skip (by
    have h1:1≤(partAt s p).length:=by
     have:=partM_bd (s:=t) (p:=k) (r:=_) (n:=_) (by
      rcases Nat.lt_or_ge k t.size with h|h
      ·exact h
      ·exfalso
       cases hz:partAt s p with
       |nil=>
        have:=hat
        rw[hz,List.nil_append]at this
        cases hz2:quoteB (s.data.toList.drop (p+wd s p))++[34] with
        |nil=>simp at hz2
        |cons x l=>rw[hz2]at this;have:=this.cons.1;omega
       |cons x l=>have h2:=hat;rw[hz]at h2;have:=(At.cons (l:=l++_) h2).1;omega) hpart
     omega
    omega)
   have hkt:k<t.size:=by
    cases hz:partAt s p++(quoteB (s.data.toList.drop (p+wd s p))++[34]) with
    |nil=>simp at hz
    |cons x l=>rw[hz]at hat;exact hat.cons.1
   obtain⟨g,rfl⟩: ∃i,g=i+1:=⟨g-1,by omega⟩
   refine⟨(Utf8.decode s p).1::rs,?_,fun acc=> ?_⟩
   ·show encB _++encAll rs=_
    rw[hrs,encB_at s p hps hnb,←drop_rune]
   ·rw[scanGo,if_pos hkt,if_neg h34,hpart]
    simp only
    rw[show g+1-1=g by omega]at hsc
    rw[hsc,List.append_assoc,List.length_append]
    simp only[List.singleton_append,Prod.mk.injEq,and_true]
    omega
  ·have hnil:s.data.toList.drop p=[]:=List.drop_eq_nil_of_le (by rw[Array.length_toList];show s.size≤p;omega)
   rw[hnil]at hat ⊢
   obtain⟨hk,hb,_⟩:=At.cons (x:=34) (l:=[]) hat
   refine⟨[],rfl,fun acc=> ?_⟩
   obtain⟨g,rfl⟩: ∃i,g=i+1:=⟨g-1,by omega⟩
   rw[scanGo,if_pos hk,if_pos (show byt t k=34 from hb),List.append_nil]
   rfl
theorem ofNat_toNat {n:Nat} (h:n<256):(UInt8.ofNat n).toNat=n:=UInt8.toNat_ofNat_of_lt' (show n<256 from h)
theorem dec_enc(t:ByteArray)(k r:Nat)(hr:r≤1114111∧(r<55296∨57343<r))(h:At t k (encB r))(hk:k≤t.size):Utf8.decode t k=(r,(encB r).length)∧ ¬bad t k:=by
 obtain⟨hr1,hr2⟩:=hr
 have hle:=h.le hk
 have key:Utf8.decode t k=(r,(encB r).length):=by
  rw[dec_eq]
  unfold encB at h hle ⊢
  by_cases h1:r≤127
  ·rw[Lib.encodeRuneZ_one (by omega) (by omega)]at h hle ⊢
   simp only[List.map_cons,List.map_nil,List.length_cons,List.length_nil]at h hle ⊢
   obtain⟨_,b0,_⟩:=h.cons
   rw[show ((r:Int)).toNat=r by omega,ofNat_toNat (by omega)]at b0
   rw[b0]
   unfold Lib.decodeN
   rw[if_pos (by omega)]
  ·by_cases h2:r≤2047
   ·rw[Lib.encodeRuneZ_two (by omega) (by omega)]at h hle ⊢
    simp only[List.map_cons,List.map_nil,List.length_cons,List.length_nil]at h hle ⊢
    obtain⟨_,b0,h⟩:=h.cons
    obtain⟨_,b1,_⟩:=h.cons
    rw[ofNat_toNat (by omega)]at b0 b1
    generalize byt t k=c0 at *
    generalize byt t (k+1)=c1 at *
    unfold Lib.decodeN
    rw[if_neg (by omega),if_pos (by omega),if_pos (by omega)]
    simp only[Prod.mk.injEq,and_true]
    omega
   ·by_cases h3:r≤65535
    ·rw[Lib.encodeRuneZ_three (by omega)]at h hle ⊢
     simp only[List.map_cons,List.map_nil,List.length_cons,List.length_nil]at h hle ⊢
     obtain⟨_,b0,h⟩:=h.cons
     obtain⟨_,b1,h⟩:=h.cons
     obtain⟨_,b2,_⟩:=h.cons
     rw[ofNat_toNat (by omega)]at b0 b1 b2
     rw[show k+1+1=k+2 by omega]at b2
     generalize byt t k=c0 at *
     generalize byt t (k+1)=c1 at *
     generalize byt t (k+2)=c2 at *
     unfold Lib.decodeN
     rw[if_neg (by omega),if_neg (by omega),if_pos (by omega),if_pos (by omega)]
     simp only[Prod.mk.injEq,and_true]
     omega
    ·rw[Lib.encodeRuneZ_four (by omega) (by omega)]at h hle ⊢
     simp only[List.map_cons,List.map_nil,List.length_cons,List.length_nil]at h hle ⊢
     obtain⟨_,b0,h⟩:=h.cons
     obtain⟨_,b1,h⟩:=h.cons
     obtain⟨_,b2,h⟩:=h.cons
     obtain⟨_,b3,_⟩:=h.cons
     rw[ofNat_toNat (by omega)]at b0 b1 b2 b3
     rw[show k+1+1=k+2 by omega]at b2
     rw[show k+1+1+1=k+3 by omega]at b3
     generalize byt t k=c0 at *
     generalize byt t (k+1)=c1 at *
     generalize byt t (k+2)=c2 at *
     generalize byt t (k+3)=c3 at *
     unfold Lib.decodeN
     rw[if_neg (by omega),if_neg (by omega),if_neg (by omega),if_pos (by omega),if_pos (by omega)]
     simp only[Prod.mk.injEq,and_true]
     omega
 refine⟨key,fun hb=> ?_⟩
 unfold bad at hb
 rw[key]at hb
 simp only at hb
 obtain⟨e1,e2⟩:=hb
 subst e1
 have:(encB 65533).length=3:=by decide+kernel
 omega
theorem vld_enc(t:ByteArray): ∀(rs:List Nat) (f k:Nat),RunesOk rs→t.data.toList.drop k=encAll rs→k≤t.size→t.size≤k+f→(vld t f k).2=true
 | [],f,k,_,he,hk,hf=>by
   have:t.size≤k:=by
    have h:=List.drop_eq_nil_iff.1 he
    rwa [Array.length_toList]at h
   rw[vld_end t f k (by omega)]
 |r::rs,f,k,ho,he,hk,hf=>by
  have hr:=ho r (by simp)
  have he':t.data.toList.drop k=encB r++encAll rs:=he
  have hat:At t k (encB r):=⟨_,he'⟩
  obtain⟨hd,hb⟩:=dec_enc t k r hr hat hk
  have hle:=hat.le hk
  have hw:wd t k=(encB r).length:=by unfold wd;rw[hd]
  have hwp:=wd_pos t k
  obtain⟨f,rfl⟩: ∃g,f=g+1:=⟨f-1,by omega⟩
  rw[vld_step t f k (by omega) hb]
  refine vld_enc t rs f _ (fun x hx=>ho x (by simp[hx])) ?_ (by omega) (by omega)
  rw[hw,←List.drop_drop,he',List.drop_left]
theorem valid_enc(rs:List Nat)(h:RunesOk rs):(valid (st (encAll rs))).2=true:=by
 have e:(st (encAll rs)).data.toList=encAll rs:=st_list _
 exact vld_enc (st (encAll rs)) rs _ 0 h (by rw[e];rfl) (Nat.zero_le _) (by omega)
theorem quoteM_yes {s:ByteArray} (h:(valid s).2=true):quoteM s=(34::quoteB s.data.toList++[34],0):=by unfold quoteM;rw[if_pos h]
theorem quoteM_no {s:ByteArray} (h: ¬(valid s).2=true):quoteM s=([],2):=by unfold quoteM;rw[if_neg h]
theorem scan_at(s t:ByteArray)(a:Nat)(h:(valid s).2=true)(hat:At t a (quoteM s).1): ∃rs,encAll rs=s.data.toList∧scanM t a=(a+(quoteM s).1.length,0,rs):=by
 rw[quoteM_yes h]at hat ⊢
 obtain⟨ha,hb,hat⟩:=At.cons (x:=34) (l:=quoteB s.data.toList++[34]) hat
 obtain⟨rs,h1,h2⟩:=scan_quoted s t s.size 0 (a+1) t.size h (Nat.zero_le _) (by omega) hat (by omega)
 refine⟨rs,h1,?_⟩
 unfold scanM
 rw[if_pos ⟨ha,hb⟩,h2]
 simp only[List.drop_zero,List.nil_append,Prod.mk.injEq,and_true,List.length_cons,List.length_append,List.length_nil,List.cons_append]
 omega
end Go.Proofs.YtkafjblfjdpdaaaGreatDoor
