/-
  PLAIN MATHEMATICS: what is written in a line stands there as a key, and as a rest.
  PLAIN MATHEMATICS: a line made of blanks, a key, a colon and a rest; of blanks, a - and a rest.
-/
import Derived.Test.YtkafjblfjdpdaaaGreatDoorYsD
namespace Go.Proofs.YtkafjblfjdpdaaaGreatDoor
open Go.RowKit
structure LineT(l:Bs):Prop where
 vd:Vd l
 pl: ∀c∈l,32≤c.toNat∧c≠127
 fst: ∃c r,l=c::r∧c≠32∧c≠35
 lst:lastB 0 l≠32
def QtT(l:Bs):Prop:= ∀(T:ByteArray) (a:Nat),At T a l→a+l.length≤T.size→(a+l.length=T.size∨byt T (a+l.length)=58)→qtd T a=(a+l.length,true,true)
def NoQt(l:Bs):Prop:=hashL 0 l=true∧ ∀c r,l=c::r→c≠34∧c≠39
theorem dbl_mem: ∀ {l:Bs} {c:UInt8},c∈dblB l→c∈l
 | [],c,h=>by cases h
 |d::l,c,h=>by
  have e:dblB (d::l)=(if d=39 then [39,39] else [d])++dblB l:=rfl
  rw[e]at h
  rcases List.mem_append.1 h with h|h
  ·split at h
   ·rename_i hd
    have:c=39:=by simpa using h
    rw[this,hd]
    simp
   ·rw[List.mem_singleton]at h
    rw[h]
    simp
  ·exact List.mem_cons_of_mem _ (dbl_mem h)
theorem vd_dbl {l:Bs} (h:Vd l):Vd (dblB l):=
 Vd.ind (P:=fun l=>Vd (dblB l)) .nil (fun c l hc _ ih=>by
  have e:dblB (c::l)=(if c=39 then [39,39] else [c])++dblB l:=rfl
  rw[e]
  refine .app ?_ ih
  split
  ·exact .low (by decide)
  ·exact .one hc)
  (fun a l ha hv _ ih=>by
   rw[dblB_app,dblB_no (fun b hb e=>by have:=ha b hb;rw[e]at this;exact absurd this (by decide))]
   exact .app hv ih) h
theorem lastB_end(l:Bs)(c p:UInt8):lastB p (l++[c])=c:=by rw[lastB_app];rfl
theorem at_drop {T:ByteArray} {a:Nat} {l:Bs} (h:At T a l)(_hle:a+l.length≤T.size)(he:a+l.length=T.size∨byt T (a+l.length)=58): ∃rest:Bs,T.data.toList.drop a=l++rest∧ ∀r,rest≠39::r:=by
 obtain⟨rest,hr⟩:=h
 refine⟨rest,hr,fun r e=> ?_⟩
 have h2:T.data.toList.drop (a+l.length)=39::r:=by
  rw[←List.drop_drop,hr,List.drop_left,e]
 obtain⟨g1,g2,_⟩:=drop_cons h2
 rcases he with he|he
 ·omega
 ·rw[g2]at he
  exact absurd he (by decide)
theorem inQ_line {t:Bs} (h:(valid (st t)).2=true):LineT (inQ t (qtB t))∧QtT (inQ t (qtB t)):=by
 unfold inQ
 by_cases hp:plainL t=true
 ·rw[if_pos hp,quoted_plain h hp]
  have hpl: ∀c∈t,32≤c.toNat∧c≠127:=fun c hc=>by
   have:=List.all_eq_true.1 hp c hc
   simpa using this
  refine⟨⟨.cons (by decide) (.app (vd_dbl (vd_of h)) (.one (by decide))),fun c hc=> ?_,⟨39,_,rfl,by decide,by decide⟩,?_⟩,fun T a hat hle he=> ?_⟩
  ·simp only[List.cons_append,List.mem_cons,List.mem_append,List.not_mem_nil,or_false]at hc
   rcases hc with rfl|hc|rfl
   ·exact ⟨by decide,by decide⟩
   ·exact hpl c (dbl_mem hc)
   ·exact ⟨by decide,by decide⟩
  ·rw[lastB_end];decide
  ·obtain ⟨rest,hr,hn⟩:=at_drop hat hle he
   have hr2:T.data.toList.drop a=39::(dblB t++39::rest):=by rw[hr];simp
   obtain⟨g1,g2,g3⟩:=drop_cons hr2
   have hs:(st t).data.toList.drop 0=t:=by rw[List.drop_zero,st_list]
   have key:=single_back (st t) T rest hn (st t).size 0 (a+1) T.size [] h (fun i _ hi=>(plain_at hp i hi).1) (Nat.zero_le _) (by omega) (by rw[hs];exact g3) (by omega)
   rw[hs]at key
   have hlen:(39::dblB t++[39]).length=(dblB t).length+2:=by simp
   unfold qtd
   rw[if_neg (by omega),if_neg (by rw[g2];decide),if_pos (by rw[g2];rfl)]
   unfold sglM
   rw[if_neg (by omega)]
   simp only[Int.toNat_natCast]
   rw[if_neg (by rw[g2];intro hh;rcases hh with hh|hh;omega;exact hh rfl),key]
   simp only[hlen,beq_self_eq_true,Prod.mk.injEq,and_true]
   omega
 ·rw[if_neg hp]
  obtain⟨h1,h2⟩:=vd_qt h
  refine⟨⟨vd_safe h1 0,low_safe 0 h2,⟨34,_,qtS_yes h,by decide,by decide⟩,?_⟩,fun T a hat hle he=> ?_⟩
  ·show lastB 0 (qtS t)≠32
   rw[qtS_yes h,←List.cons_append,lastB_end]
   decide
  ·obtain ⟨rs,_,e2⟩:=scan_safe h hat
   have hat2:=hat
   change At T a (qtS t) at hat2
   rw[qtS_yes h]at hat2
   obtain⟨g1,g2,_⟩:=hat2.cons
   unfold qtd
   rw[if_neg (by omega),if_pos (by rw[g2];rfl),e2]
   rfl
theorem bare_line {s:Bs} (h:bareL s=true):LineT s∧NoQt s:=by
 obtain⟨h1,h2,h3,h4,h5,h6⟩:=bare_parts h
 cases s with
 |nil=>cases h2
 |cons c r=>
  have hs:signsL.contains c=false:=by
   unfold headL at h2
   rw[Bool.and_eq_true,Bool.not_eq_true']at h2
   exact h2.1
  refine⟨⟨vd_of h1,fun x hx=> ?_,⟨c,r,rfl,?_,?_⟩,h3⟩,mid_hash h6,fun d q e=> ?_⟩
  ·have:=List.all_eq_true.1 h5 x hx
   simpa using this
  ·rintro rfl;exact absurd hs (by decide)
  ·rintro rfl;exact absurd hs (by decide)
  ·obtain ⟨rfl,rfl⟩:=List.cons.inj e
   constructor
   ·rintro rfl;exact absurd hs (by decide)
   ·rintro rfl;exact absurd hs (by decide)
theorem key_line {s:Bs} (h:(valid (st s)).2=true):LineT (writeKeyL s).1∧(QtT (writeKeyL s).1∨bareL (writeKeyL s).1=true):=by
 unfold writeKeyL
 rw[if_pos h]
 simp only
 by_cases hb:bareL s=true
 ·rw[if_pos hb]
  exact⟨(bare_line hb).1,.inr hb⟩
 ·rw[if_neg hb]
  exact⟨(inQ_line h).1,.inl (inQ_line h).2⟩
theorem num_ends {t:Bs} (h:decM t=true):(∃c r,t=c::r∧c≠32∧c≠35∧c≠34∧c≠39)∧lastB 0 t≠32:=by
 obtain⟨ha,c,r,hl,hc⟩:=decM_num h
 have hne:t≠ []:=by rw[hl];simp
 have hlast:=num_bytes (List.all_eq_true.1 ha _ (last_in 0 hne))
 refine⟨⟨c,r,hl,?_⟩,fun e=>by rw[e]at hlast;exact absurd hlast.1 (by decide)⟩
 rcases hc with rfl|hc
 ·decide
 ·refine ⟨?_,?_,?_,?_⟩
  all_goals (rintro rfl;exact absurd hc (by decide))
theorem list_ends(o c:UInt8)(its:List Bs):(∃r,listB false 0 0 o c its=o::r)∧lastB 0 (listB false 0 0 o c its)=c:=by
 unfold listB
 refine⟨⟨_,rfl⟩,?_⟩
 rw[←List.cons_append,lastB_end]
theorem write_line {v:Vl} (h:rightM v=true):LineT (writeL v).1∧(QtT (writeL v).1∨NoQt (writeL v).1):=by
 have hr:Rgt v:=by
  have h':=h
  unfold rightM at h'
  simp only[Bool.and_eq_true,decide_eq_true_eq]at h'
  exact h'.2.2
 unfold writeL
 rw[if_pos h]
 simp only
 by_cases h4:v.k=4
 ·rw[if_pos h4]
  obtain⟨k,t,ks,is⟩:=v
  have h4':k=4:=h4
  subst h4'
  obtain⟨hn,_⟩:=hr.here
  rw[nodeM_mk,if_neg (by decide),if_neg (by decide)]at hn
  simp only[Bool.and_eq_true,decide_eq_true_eq]at hn
  obtain⟨⟨rfl,rfl⟩,hsc⟩:=hn
  have hv:(valid (st t)).2=true:=hsc
  show LineT (if bareL t=true∧(resolveL t).k=4 then t else inQ t (prB false 0 0 (.mk 4 t [] [])))∧(QtT (if bareL t=true∧(resolveL t).k=4 then t else inQ t (prB false 0 0 (.mk 4 t [] [])))∨NoQt (if bareL t=true∧(resolveL t).k=4 then t else inQ t (prB false 0 0 (.mk 4 t [] []))))
  by_cases hb:bareL t=true∧(resolveL t).k=4
  ·rw[if_pos hb]
   exact⟨(bare_line hb.1).1,.inr (bare_line hb.1).2⟩
  ·rw[if_neg hb,write_str hv]
   exact⟨(inQ_line hv).1,.inl (inQ_line hv).2⟩
 ·rw[if_neg h4]
  obtain⟨g1,g2⟩:=vd_prB 0 v hr 0
  have g3:=safe_hash (prB false 0 0 v) 0 0 id
  have key:(∃c r,safeL 0 (prB false 0 0 v)=c::r∧c≠32∧c≠35∧c≠34∧c≠39)∧lastB 0 (safeL 0 (prB false 0 0 v))≠32:=by
   rw[safe_prB 0 v hr 0 0]
   obtain⟨k,t,ks,is⟩:=v
   have hk4:k≠4:=h4
   obtain⟨hn,h7⟩:=hr.here
   rw[nodeM_mk]at hn
   rw[prQ_mk,if_neg hk4]
   by_cases h1:k=1
   ·rw[if_pos h1]
    exact⟨⟨110,_,rfl,by decide⟩,by decide⟩
   rw[if_neg h1]
   by_cases h5:k=5
   ·rw[if_pos h5]
    obtain⟨⟨r,e1⟩,e2⟩:=list_ends 91 93 (is.map (prQ qtS))
    exact⟨⟨91,r,e1,by decide⟩,by rw[e2];decide⟩
   rw[if_neg h5]at hn ⊢
   by_cases h6:k=6
   ·rw[if_pos h6]
    obtain⟨⟨r,e1⟩,e2⟩:=list_ends 123 125 (List.zipWith (memQ qtS) ks (is.map (prQ qtS)))
    exact⟨⟨123,r,e1,by decide⟩,by rw[e2];decide⟩
   rw[if_neg h6]at hn ⊢
   simp only[Bool.and_eq_true,decide_eq_true_eq]at hn
   obtain⟨_,hsc⟩:=hn
   unfold scalarM at hsc
   rw[if_neg h1]at hsc
   by_cases h2:k=2
   ·rw[if_pos h2]at hsc
    simp only[Bool.or_eq_true,decide_eq_true_eq]at hsc
    rcases hsc with rfl|rfl
    ·exact ⟨⟨116,_,rfl,by decide⟩,by decide⟩
    ·exact ⟨⟨102,_,rfl,by decide⟩,by decide⟩
   rw[if_neg h2]at hsc
   by_cases h3:k=3
   ·rw[if_pos h3]at hsc
    exact num_ends hsc
   rw[if_neg h3,if_neg hk4,if_neg h7]at hsc
   cases hsc
  obtain⟨⟨c,r,e,k1,k2,k3,k4⟩,k5⟩:=key
  exact⟨⟨vd_safe g1 0,low_safe 0 g2,⟨c,r,e,k1,k2⟩,k5⟩,.inr ⟨g3,fun d q e2=>by
   rw[e]at e2
   obtain⟨rfl,rfl⟩:=List.cons.inj e2
   exact⟨k3,k4⟩⟩⟩
end Go.Proofs.YtkafjblfjdpdaaaGreatDoor
namespace Go.Proofs.YtkafjblfjdpdaaaGreatDoor
open Go.RowKit
theorem hash_at: ∀ {l:Bs} {p:UInt8},hashL p l=true→ ∀i (h:i+1<l.length),¬(l[i]=32∧l[i+1]=35)
 | [],_,_,i,h=>absurd h (by simp)
 | [c],_,_,i,h=>absurd h (by simp)
 |c::d::l,p,hh,i,h=>by
  unfold hashL at hh
  rw[Bool.and_eq_true]at hh
  cases i with
  |zero=>
   have h2:=hh.2
   unfold hashL at h2
   rw[Bool.and_eq_true,Bool.not_eq_true']at h2
   rintro ⟨e1,e2⟩
   have e1:c=32:=e1
   have e2:d=35:=e2
   rw[e1,e2]at h2
   exact absurd h2.1 (by decide)
  |succ i=>exact hash_at hh.2 i (by simpa using h)
theorem mid_at: ∀ {l:Bs} {p:UInt8},midL p l=true→ ∀i (h:i+1<l.length),¬(l[i]=58∧l[i+1]=32)
 | [],_,_,i,h=>absurd h (by simp)
 | [c],_,_,i,h=>absurd h (by simp)
 |c::d::l,p,hh,i,h=>by
  unfold midL at hh
  rw[Bool.and_eq_true]at hh
  cases i with
  |zero=>
   have h2:=hh.2
   unfold midL at h2
   rw[Bool.and_eq_true,Bool.and_eq_true,Bool.not_eq_true']at h2
   rintro ⟨e1,e2⟩
   have e1:c=58:=e1
   have e2:d=32:=e2
   rw[e1,e2]at h2
   exact absurd h2.1.1 (by decide)
  |succ i=>exact mid_at hh.2 i (by simpa using h)
theorem last_get: ∀ {l:Bs} {p:UInt8} (h:0<l.length),lastB p l=l[l.length-1]'(by omega)
 | [],_,h=>absurd h (by simp)
 | [c],_,_=>rfl
 |c::d::l,p,_=>by
  have:=last_get (l:=d::l) (p:=c) (by simp)
  show lastB c (d::l)=_
  rw[this]
  rfl
theorem LineT.pos {l:Bs} (h:LineT l):0<l.length:=by
 obtain⟨c,r,e,_⟩:=h.fst
 rw[e]
 simp
theorem LineT.first {l:Bs} (h:LineT l) {T:ByteArray} {a:Nat} (hat:At T a l):a<T.size∧byt T a≠32∧byt T a≠35:=by
 obtain⟨c,r,e,h1,h2⟩:=h.fst
 rw[e]at hat
 obtain⟨g1,g2,_⟩:=hat.cons
 refine⟨g1,fun e=>h1 (UInt8.toNat_inj.1 (by rw[←g2,e];rfl)),fun e=>h2 (UInt8.toNat_inj.1 (by rw[←g2,e];rfl))⟩
theorem cmt_none {T:ByteArray}: ∀(f q:Nat),T.size≤q+f→(∀j,q≤j→j<T.size→cmt T j=false)→cmtGo T f q=T.size
 |0,q,_,_=>rfl
 |f+1,q,h,hn=>by
  unfold cmtGo
  by_cases hq:q<T.size
  ·rw[if_pos hq,if_neg (by rw[hn q (Nat.le_refl _) hq];exact Bool.false_ne_true)]
   exact cmt_none f (q+1) (by omega) (fun j h1 h2=>hn j (by omega) h2)
  ·rw[if_neg hq]
theorem rest_line {l:Bs} (h:LineT l)(hk:QtT l∨NoQt l) {T:ByteArray} {q:Nat} (hat:At T q (32::l))(hz:q+1+l.length=T.size):restM T q=((q+1,T.size),none):=by
 obtain⟨g1,g2,g3⟩:=hat.cons
 obtain⟨f1,f2,f3⟩:=h.first g3
 have hp:=h.pos
 have hb:blk T q=q+1:=by
  rw[blk_step g1 g2,blk_stop (fun hh=>f2 hh.2)]
 have hc:cmtTo T (look T (q+1))=T.size:=by
  rcases hk with hk|⟨hk1,hk2⟩
  ·have e:=hk T (q+1) g3 (by omega) (.inl hz)
   unfold look
   rw[e,if_pos rfl]
   exact cmtTo_end (by simp only;omega)
  ·have e:look T (q+1)=q+1:=by
    have e2:qtd T (q+1)=(q+1,false,false):=by
     obtain⟨c,r,e,_⟩:=h.fst
     obtain⟨n1,n2⟩:=hk2 c r e
     have g4:=g3
     rw[e]at g4
     obtain⟨_,g5,_⟩:=g4.cons
     unfold qtd
     rw[if_neg (by omega),if_neg (fun e=>n1 (UInt8.toNat_inj.1 (by rw[←g5,e];rfl))),if_neg (fun e=>n2 (UInt8.toNat_inj.1 (by rw[←g5,e];rfl)))]
    unfold look
    rw[e2]
    rfl
   rw[e]
   refine cmt_none _ _ (by omega) (fun j h1 h2=> ?_)
   by_cases hj:j=q+1
   ·subst hj
    exact high_cmt f3
   ·obtain ⟨i,rfl⟩: ∃i,j=q+1+(i+1):=⟨j-(q+2),by omega⟩
    have hi:i+1<l.length:=by omega
    have b1:=g3.get (i+1) hi
    have b0:=g3.get i (by omega)
    have hn:=hash_at hk1 i hi
    unfold cmt
    rw[Bool.and_eq_false_iff,Bool.and_eq_false_iff]
    by_cases h35:byt T (q+1+(i+1))=35
    ·right
     refine beq_eq_false_iff_ne.2 (fun e=>hn ⟨UInt8.toNat_inj.1 ?_,UInt8.toNat_inj.1 ?_⟩)
     ·rw[←b0,show q+1+i=q+1+(i+1)-1 by omega,e];rfl
     ·rw[←b1,h35];rfl
    ·exact .inl (.inr (beq_eq_false_iff_ne.2 h35))
 unfold restM
 rw[hb,hc,if_neg (by omega)]
 have ht:trm T (q+1) T.size=T.size:=by
  obtain⟨m,hm⟩: ∃m,T.size=m+1:=⟨T.size-1,by omega⟩
  rw[hm]
  unfold trm
  rw[if_neg]
  rintro ⟨_,e⟩
  have hl:=h.lst
  rw[last_get hp]at hl
  have:=g3.get (l.length-1) (by omega)
  rw[show q+1+(l.length-1)=m by omega,e]at this
  exact hl (UInt8.toNat_inj.1 this.symm)
 rw[ht]
theorem sgn_colon {T:ByteArray} {q:Nat} {r:Bs} (hat:At T q (58::32::r)):sgn T q 58=true:=by
 obtain⟨g1,g2,g3⟩:=hat.cons
 obtain⟨g4,g5,_⟩:=g3.cons
 unfold sgn
 rw[decide_eq_true g1,g2,g5]
 simp
theorem key_at {k r:Bs} (h:LineT k)(hk:QtT k∨bareL k=true) {T:ByteArray} {a:Nat} (hat:At T a (k++(58::32::r))):ykeyM T a=(a+k.length,true):=by
 have g1:=hat.take
 have g2:=hat.skip
 have hs:=sgn_colon g2
 obtain⟨g3,g4,_⟩:=g2.cons
 have hp:=h.pos
 obtain⟨f1,f2,f3⟩:=h.first g1
 unfold ykeyM
 rcases hk with hk|hk
 ·rw[hk T a g1 (by omega) (.inr g4)]
  simp only
  rw[if_pos trivial,if_pos ⟨trivial,hs⟩]
 ·obtain ⟨b1,b2,b3,b4,b5,b6⟩:=bare_parts hk
  obtain⟨c,q,e,n1,n2,n3,n4⟩:=bare_first hk
  have g5:=g1
  rw[e]at g5
  obtain⟨_,g6,_⟩:=g5.cons
  have hne: ∀(x:UInt8) (m:Nat),c≠x→x.toNat=m→byt T a≠m:=fun x m hx hm e=>hx (UInt8.toNat_inj.1 (by rw[←g6,e,hm]))
  have e2:qtd T a=(a,false,false):=by
   unfold qtd
   rw[if_neg (by omega),if_neg (hne 34 34 n1 rfl),if_neg (hne 39 39 n2 rfl)]
  rw[e2]
  simp only
  rw[if_neg Bool.false_ne_true,if_neg (fun hh=>hh.elim (hne 91 91 n3 rfl) (hne 123 123 n4 rfl))]
  have go: ∀i,i≤k.length→keyTo T a (a+(k.length-i))=a+k.length:=fun i=>by
   induction i with
   |zero=>
    intro _
    rw[Nat.sub_zero]
    exact keyTo_hit g3 (high_cmt (by rw[g4];decide)) (by omega) hs
   |succ i ih=>
    intro hi
    have hj:k.length-(i+1)<k.length:=by omega
    have b0:=g1.get (k.length-(i+1)) hj
    rw[keyTo_next (by omega),show a+(k.length-(i+1))+1=a+(k.length-i) by omega]
    ·exact ih (by omega)
    ·by_cases h0:k.length-(i+1)=0
     ·rw[h0];exact high_cmt f3
     ·obtain ⟨m,hm⟩: ∃m,k.length-(i+1)=m+1:=⟨k.length-(i+2),by omega⟩
      have hm1:m+1<k.length:=by omega
      have hn:=hash_at (mid_hash b6) m hm1
      have c0:=g1.get m (by omega)
      have c1:=g1.get (m+1) hm1
      rw[hm]
      unfold cmt
      rw[Bool.and_eq_false_iff,Bool.and_eq_false_iff]
      by_cases h35:byt T (a+(m+1))=35
      ·right
       refine beq_eq_false_iff_ne.2 (fun e=>hn ⟨UInt8.toNat_inj.1 ?_,UInt8.toNat_inj.1 ?_⟩)
       ·rw[←c0,show a+m=a+(m+1)-1 by omega,e];rfl
       ·rw[←c1,h35];rfl
      ·exact .inl (.inr (beq_eq_false_iff_ne.2 h35))
    ·intro _
     by_cases h58:byt T (a+(k.length-(i+1)))=58
     ·by_cases hl:i=0
      ·subst hl
       rw[last_get hp]at b4
       exfalso
       refine b4 (UInt8.toNat_inj.1 ?_)
       have:=g1.get (k.length-1) (by omega)
       rw[←this]
       exact h58
      ·have hm1:k.length-(i+1)+1<k.length:=by omega
       have hn:=mid_at b6 (k.length-(i+1)) hm1
       have c1:=g1.get (k.length-(i+1)+1) hm1
       unfold sgn
       rw[Bool.and_eq_false_iff]
       right
       rw[Bool.or_eq_false_iff]
       refine⟨decide_eq_false (by omega),beq_eq_false_iff_ne.2 (fun e=>hn ⟨UInt8.toNat_inj.1 ?_,UInt8.toNat_inj.1 ?_⟩)⟩
       ·rw[←b0,h58];rfl
       ·rw[←c1,←Nat.add_assoc,e];rfl
     ·exact not_sgn h58
  have:=go k.length (Nat.le_refl _)
  rw[Nat.sub_self,Nat.add_zero]at this
  rw[this]
theorem blk_line {T:ByteArray} {c:UInt8} {r:Bs} (hc:c≠32): ∀(n a:Nat),At T a (List.replicate n 32++(c::r))→blk T a=a+n
 |0,a,h=>by
  obtain⟨_,g,_⟩:=At.cons (x:=c) (l:=r) h
  exact blk_stop (fun hh=>hc (UInt8.toNat_inj.1 (by rw[←g,hh.2];rfl)))
 |n+1,a,h=>by
  rw[List.replicate_succ,List.cons_append]at h
  obtain⟨g1,g2,g3⟩:=h.cons
  rw[blk_step g1 g2,blk_line hc n (a+1) g3]
  omega
theorem bare_dash {k:Bs} (h:bareL k=true): ∀r,k≠45::32::r∧k≠ [45]:=by
 obtain⟨_,b2,_⟩:=bare_parts h
 intro r
 constructor
 ·rintro rfl
  exact absurd b2 (by simp[headL])
 ·rintro rfl
  exact absurd b2 (by simp[headL])
theorem entry_line {k l:Bs} (hk:LineT k)(hk2:QtT k∨bareL k=true)(h:LineT l)(hl:QtT l∨NoQt l) {T:ByteArray} {n:Nat} (hT:T.data.toList=List.replicate n 32++(k++(58::32::l))):
 blk T 0=n∧lineD T n=some (4,some (n+k.length),(n+k.length+2,T.size),none):=by
 have hA:At T 0 (List.replicate n 32++(k++(58::32::l))):=⟨[],by rw[hT,List.append_nil];rfl⟩
 have hz:T.size=n+k.length+2+l.length:=by
  have:T.data.toList.length=T.size:=Array.length_toList
  rw[hT]at this
  simp only[List.length_append,List.length_replicate,List.length_cons]at this
  omega
 have g1:=hA.skip
 rw[List.length_replicate,Nat.zero_add]at g1
 obtain⟨f1,f2,f3⟩:=hk.first g1.take
 have hp:=hk.pos
 obtain⟨c,r,e,e1,e2⟩:=hk.fst
 refine⟨?_,?_⟩
 ·rw[e,List.cons_append]at hA
  rw[blk_line e1 n 0 hA,Nat.zero_add]
 ·have g2:=g1.skip
  obtain⟨_,_,g3⟩:=g2.cons
  unfold lineD
  rw[if_neg (by omega),if_neg f3,if_neg,key_at hk hk2 g1]
  ·simp only
   rw[if_neg (by simp),if_pos (by omega),rest_line h hl g3 (by omega)]
  ·intro hs
   have hb45:byt T n=45:=by
    unfold sgn at hs
    rw[Bool.and_eq_true,Bool.and_eq_true]at hs
    exact eq_of_beq hs.1.2
   rcases hk2 with hq|hb
   ·have:=hq T n g1.take (by omega) (.inr g2.cons.2.1)
    unfold qtd at this
    rw[if_neg (by omega),if_neg (by omega),if_neg (by omega)]at this
    injection this with h1 _
    omega
   ·have g4:=g1.take
    cases hr:k with
    |nil=>rw[hr]at hp;exact absurd hp (by simp)
    |cons x y=>
     rw[hr]at g4
     obtain⟨_,g5,g6⟩:=g4.cons
     have hx:x=45:=UInt8.toNat_inj.1 (by rw[←g5,hb45];rfl)
     cases y with
     |nil=>exact(bare_dash hb []).2 (by rw[hr,hx])
     |cons z y=>
      obtain⟨_,g7,_⟩:=g6.cons
      have hs2:byt T (n+1)=32:=by
       unfold sgn at hs
       rw[Bool.and_eq_true,Bool.or_eq_true]at hs
       rcases hs.2 with h1|h1
       ·have h1:=of_decide_eq_true h1
        have hk2:2≤k.length:=by rw[hr];simp
        omega
       ·exact eq_of_beq h1
      have hz2:z=32:=UInt8.toNat_inj.1 (by rw[←g7,hs2];rfl)
      exact(bare_dash hb y).1 (by rw[hr,hx,hz2])
theorem item_line {l:Bs} (h:LineT l)(hl:QtT l∨NoQt l) {T:ByteArray} {n:Nat} (hT:T.data.toList=List.replicate n 32++(45::32::l)):
 blk T 0=n∧lineD T n=some (3,none,(n+2,T.size),none):=by
 have hA:At T 0 (List.replicate n 32++(45::32::l)):=⟨[],by rw[hT,List.append_nil];rfl⟩
 have hz:T.size=n+2+l.length:=by
  have:T.data.toList.length=T.size:=Array.length_toList
  rw[hT]at this
  simp only[List.length_append,List.length_replicate,List.length_cons]at this
  omega
 have g1:=hA.skip
 rw[List.length_replicate,Nat.zero_add]at g1
 obtain⟨g2,g3,g4⟩:=g1.cons
 obtain⟨_,g5,_⟩:=g4.cons
 have g3:byt T n=45:=g3
 refine⟨by rw[blk_line (by decide) n 0 hA,Nat.zero_add],?_⟩
 have hs:sgn T n 45=true:=by
  unfold sgn
  rw[decide_eq_true g2,g3,g5]
  simp
 unfold lineD
 rw[if_neg (by omega),if_neg (by omega),if_pos hs,rest_line h hl g4 (by omega)]
theorem clean_line {T:ByteArray} (hv:(valid T).2=true)(hp: ∀c∈T.data.toList,32≤c.toNat∧c≠127):cleanM T true=T.size:=by
 have hb: ∀i,i<T.size→32≤byt T i∧byt T i≠127:=fun i hi=>by
  have hl:i<T.data.toList.length:=by rw[Array.length_toList];exact hi
  have h1:=hp _ (List.getElem_mem hl)
  rw[←bytT T i hl]
  exact⟨h1.1,fun e=>h1.2 (UInt8.toNat_inj.1 e)⟩
 have go: ∀f p,(vld T f p).2=true→clnM T true f p=T.size:=fun f=>by
  induction f with
  |zero=>intro p _;rfl
  |succ f ih=>
   intro p hv
   by_cases hp:p<T.size
   ·have hnb: ¬bad T p:=fun h=>by
     rw[vld_bad T f p hp h]at hv
     cases hv
    rw[vld_step T f p hp hnb]at hv
    obtain⟨b1,b2⟩:=hb p hp
    rw[clnM_step T true f p hp (by
     unfold badC
     rw[decide_eq_false hnb,decide_eq_false (by omega),beq_eq_false_iff_ne.2 b2]
     rfl)]
    exact ih _ hv
   ·rw[clnM_end T true (f+1) p hp]
 exact go _ 0 hv
theorem blanks_line(n:Nat):Vd (List.replicate n 32)∧ ∀c∈(List.replicate n 32:Bs),32≤c.toNat∧c≠127:=by
 refine⟨.low (fun c hc=> ?_),fun c hc=> ?_⟩
 ·obtain rfl:=(List.mem_replicate.1 hc).2
  decide
 ·obtain rfl:=(List.mem_replicate.1 hc).2
  decide
end Go.Proofs.YtkafjblfjdpdaaaGreatDoor
