/-
  WALKS: quote.Quote.
  PLAIN MATHEMATICS: what is quoted is unquoted; what is unquoted is UTF-8.
-/
import Derived.Test.YtkafjblfjdpdaaaGreatDoorUnv
set_option maxHeartbeats 1000000
set_option maxRecDepth 1000000
namespace Go.Proofs.YtkafjblfjdpdaaaGreatDoor
open Go.RowKit
theorem escOf_qb(c:Nat)(x:UInt8)(h:c<128)(hc:zz1 (c:Int)=some x):qb (UInt8.ofNat c)=[92,x]:=by
 have key: ∀c:Nat,c<128-> ∀x,zz1 (c:Int)=some x->qb (UInt8.ofNat c)=[92,x]:=by decide+kernel
 exact key c h x hc
theorem escOf_hex(c:Nat)(h:c<32)(hc:zz1 (c:Int)=none):qb (UInt8.ofNat c)=[92,117,48,48,hexd (c/16),hexd (c%16)]:=by
 have key: ∀c:Nat,c<32->zz1 (c:Int)=none->qb (UInt8.ofNat c)=[92,117,48,48,hexd (c/16),hexd (c%16)]:=by decide+kernel
 exact key c h hc
theorem escOf_one(c:Nat)(h0:32<=c)(h:c<128)(hc:zz1 (c:Int)=none):qb (UInt8.ofNat c)=[UInt8.ofNat c]:=by
 have key: ∀c:Nat,c<128->32<=c->zz1 (c:Int)=none->qb (UInt8.ofNat c)=[UInt8.ofNat c]:=by decide+kernel
 exact key c h h0 hc
theorem escOf_high(c:Int)(h:128<=c):zz1 c=none:=by
 unfold zz1
 repeat' split
 all_goals first|rfl|omega
def zq1(s:ByteArray)(p:Nat):Bs:=if byt s p<128 then qb (UInt8.ofNat (byt s p)) else zd2 s p
theorem write_at(s:ByteArray)(p:Nat)(hp:p<s.size)(hbad: ¬bad s p)(B b:Nat)(l:Bs)(w:World)(h:Bld B b l w)(hl:l.length+6<=140737488355328)(hB:B<=w.heap.size):
 Calls Tryz.prog 100 #[.pointer (some ⟨b,0,none⟩),.int .i32 ((Utf8.decode s p).1:Int)] w (zv2 B b (l++zq1 s p) w):=by
 unfold zq1;by_cases hlow:byt s p<128
 ·rw[if_pos hlow,zf4 s p hlow];simp only;generalize byt s p=c at *;cases he:zz1 (c:Int) with
  |some x=>rw[escOf_qb c x hlow he];exact write_esc B b l c x w he h hl hB
  |none=>
   by_cases h32:c<32
   ·rw[escOf_hex c h32 he];have hx:=hex_is (c:Int) (by omega) (by omega) he;rw[show (c:Int).toNat=c by omega]at hx;exact write_hex B b l c _ _ w hx h hl hB
   ·rw[escOf_one c (by omega) hlow he];refine zK B b l _ c w (by omega) (by omega) he ?_ h hl hB;unfold Lib.runeCells Lib.byteCells;rw[Lib.encodeRuneZ_one (by omega) (by omega)];simp only[List.map_cons,List.map_nil];rw[UInt8.toNat_ofNat_of_lt' (show c<256 by omega)]
 ·rw[if_neg hlow];have hh:=zv s p (by omega);have hf:=zv0 s p hbad;exact zK B b l _ _ w (by omega) (by omega) (escOf_high _ (by omega)) (zm7 s p hp hbad) h hl hB
theorem quoteB_part(s:ByteArray)(p:Nat)(h:p<s.size):ze1 (s.data.toList.take (p+wd s p))=ze1 (s.data.toList.take p)++zq1 s p:=quoteB_rune s p h
theorem take_le(s:ByteArray)(p:Nat):(34::ze1 (s.data.toList.take p)).length<=6*p+1:=by
 have h1:=zu6 (s.data.toList.take p);have h2:(s.data.toList.take p).length<=p:=List.length_take_le _ _;rw[List.length_cons];omega
theorem quote_any(s:ByteArray)(w:World)(hT:tabs w)(hs:s.size<=1099511627776):
 Calls Tryz.prog 55 #[.string s] w fun e w'=>e= .returned (.tuple #[.string (st (zg6 s).1),.int .i64 (zg6 s).2])/\Below w.heap.size w w':=by
 have hv:=zs3 s w hT (by unfold maxLen;omega);have hm: ∀b,(valid s).2=b->zg6 s=if b=true then(34::ze1 s.data.toList++[34],0) else([],2):=fun b hb=>by unfold zg6;rw[hb]
 generalize zg6 s=Q at *;have hvv:(valid s).2=true->(vld s s.size 0).2=true:=fun h=>h
 generalize valid s=V at *;obtain⟨vp,vo⟩:=V;have HM:=hq hm;have HV:=hq hv;have HVV:=hq hvv;clear hm hv hvv hT;go_enter Tryz.func55,Tryz.ntmps55
 go_wp2_with fail
 refine HV.o.mono ?_;rintro e w1 ⟨rfl,hb⟩;cases vo with
 |false=>
  have HN:=hq (HM.o false rfl);clear HM HV HVV;go_wp2_with fail
  go_ret2
  exact⟨by rw[HN.o];rfl,hb⟩
 |true=>
  have HN:Hq (Q=(34::ze1 s.data.toList++[34],0)):=hq (HM.o true rfl);have HVF:Hq ((vld s s.size 0).2=true):=hq (HVV.o rfl);clear HM HV HVV;have hsz:=hb.size;have hbd:Bld w1.heap.size w1.heap.size [] (w1.alloc (.cells #[.pointer none,.slice none 0 0] 98)):=Lib.IsBuilderF.of (Lib.fresh_isBuilder _ _ _);have HBD:=hq hbd;have hb2:Below w.heap.size w (w1.alloc (.cells #[.pointer none,.slice none 0 0] 98)):=hb.alloc hsz _;clear hbd;go_wp2_with fail
  refine(wbyte w1.heap.size w1.heap.size [] 34 _ HBD.o (by simp) (by rw[World.size_alloc];omega)).mono ?_;rintro e w2 ⟨rfl,hw2⟩;have hb3:Below w.heap.size w w2:=hb2.trans (hw2.2.1.mono hsz);have hlt:w1.heap.size<w2.heap.size:=by
   have:=hw2.2.1.size;obtain⟨_,v,hbv,_⟩|⟨_,v,hbv,_⟩:=hw2.1<;>exact (Array.getElem?_eq_some_iff.1 hbv).1
  have HBD2:Hq (Bld w1.heap.size w1.heap.size [34] w2):=hq hw2.1;clear hw2 hb2 HBD hb;go_wp2_with fail
  have hbI:=Lib.IsBuilderF.alloc HBD2.o (.stringIter s 0);have HBI:Hq (Bld w1.heap.size w1.heap.size (34::ze1 (s.data.toList.take 0)) (w2.iter s 0)):=hq hbI;clear hbI HBD2;have hb4:Below w.heap.size w (w2.iter s 0):=hb3.alloc (Nat.le_trans hsz (Nat.le_of_lt hlt)) _
  go_loopw [] (fun wr=> ∃(pos f:Nat),pos<=s.size/\wr.heap[w2.heap.size]?=some (.stringIter s pos)/\Hq (Bld w1.heap.size w1.heap.size (34::ze1 (s.data.toList.take pos)) wr)/\Below w.heap.size w wr/\Hq ((vld s f pos).2=true)/\s.size<=pos+f)
   (fun wr=>s.size-wr.iterPos w2.heap.size)
  case atStart=>exact⟨0,s.size,by omega,World.iter_heap w2 s 0,HBI,hb4,HVF,by omega⟩
  case round=>
   obtain⟨pos,f,hps,hit,hbd,hbw,hvl,hf⟩:=hrel;clear hb4 HBI HVF hb3;have hlt2:w2.heap.size<wr.heap.size:=(Array.getElem?_eq_some_iff.1 hit).1;have hlen:=take_le s pos;by_cases hp:pos<s.size
   ·have hnx: ∀ty,(Instr.next (.pointer (some ⟨w2.heap.size,0,none⟩)) true ty).run Tryz.prog wr=_:=fun ty=>Lib.run_next_any_at wr w2.heap.size s pos ty hit hp
    obtain⟨f,rfl⟩: ∃g,f=g+1:=⟨f-1,by omega⟩;have hnb: ¬bad s pos:=fun h=>by
     have:=hvl.o;rw[vld_bad s f pos hp h]at this;cases this
    have HVN:Hq ((vld s f (pos+wd s pos)).2=true):=hq (by rw[←zD s f pos hp hnb];exact hvl.o);have hwp:=zi4 s pos;have hwl:=zp8 s pos hp;have hit2:=Lib.iterAt_heap wr w2.heap.size s pos (pos+(Utf8.decode s pos).2) hit;have hb2:=Lib.below_iterAt hbw (k:=w2.heap.size) (by omega) s (pos+(Utf8.decode s pos).2);have hbd2:Bld w1.heap.size w1.heap.size (34::ze1 (s.data.toList.take pos)) (wr.iterAt w2.heap.size s (pos+(Utf8.decode s pos).2)):=Lib.IsBuilderF.iterAt hbd.o hit _;have hsz2:w1.heap.size<=(wr.iterAt w2.heap.size s (pos+(Utf8.decode s pos).2)).heap.size:=by rw[Lib.iterAt_size];omega
    have hcall:=write_at s pos hp hnb w1.heap.size w1.heap.size _ _ hbd2 (by omega) hsz2;have HC:=hq hcall;have HIT:=hq hit2;have HB2:=hq hb2;have HPART:Hq (34::ze1 (s.data.toList.take pos)++zq1 s pos=34::ze1 (s.data.toList.take (pos+wd s pos))):=hq (by rw[quoteB_part s pos hp];rfl);have HWD:Hq (pos+wd s pos=pos+(Utf8.decode s pos).2):=hq rfl;have HST:=hq hit;clear hcall hbd2 hnb hvl hbd hit hit2 hb2;go_wp2_with fail
    refine HC.o.mono ?_;rintro e w3 ⟨rfl,h3⟩;have hit3:=Lib.OthersKept.iter h3.2.2 HIT.o (by omega);have hb5:Below w.heap.size w w3:=HB2.o.trans (h3.2.1.mono hsz);have HBD3:Hq (Bld w1.heap.size w1.heap.size (34::ze1 (s.data.toList.take (pos+wd s pos))) w3):=hq (by rw[←HPART.o];exact h3.1);have hmes:w3.iterPos w2.heap.size=pos+wd s pos:=by simp only[World.iterPos,hit3];rfl
    have hmes0:wr.iterPos w2.heap.size=pos:=by simp only[World.iterPos,HST.o]
    have HM3:=hq hmes;have HM0:=hq hmes0;clear h3 HC HPART hmes hmes0;go_wp2_with fail
    go_roundw
    case rel=>exact⟨pos+wd s pos,f,hwl,hit3,HBD3,hb5,HVN,by omega⟩
    case measure=>rw[HM3.o,HM0.o];omega
   ·have hnx: ∀ty,(Instr.next (.pointer (some ⟨w2.heap.size,0,none⟩)) true ty).run Tryz.prog wr=_:=fun ty=>Lib.run_next_end_at wr w2.heap.size s pos ty hit hp
    obtain rfl:pos=s.size:=by omega
    have htk:s.data.toList.take s.size=s.data.toList:=List.take_of_length_le (by rw[Array.length_toList];exact Nat.le_refl _);rw[htk]at hbd hlen;have HC:=hq (wbyte w1.heap.size w1.heap.size _ 34 wr hbd.o (by omega) (by omega));clear hvl;go_wp2_with fail
    refine HC.o.mono ?_;rintro e w3 ⟨rfl,h3⟩;have hb5:Below w.heap.size w w3:=hbw.trans (h3.2.1.mono hsz);have hS:=Tryz.Builder_String_any_k w1.heap.size w1.heap.size _ w3 h3.1 (Nat.le_trans (by omega) h3.2.1.size);have HS:=hq hS;clear hS h3 HC;go_wp2_with fail
    refine HS.o.mono ?_;rintro e w4 ⟨rfl,_,h5,_⟩;have hb6:Below w.heap.size w w4:=hb5.trans (h5.mono hsz);clear h5 hbd;go_wp2_with fail
    go_ret2
    exact⟨by rw[HN.o];rfl,hb6⟩
def At(t:ByteArray)(k:Nat)(l:Bs):Prop:= ∃rest,t.data.toList.drop k=l++rest
theorem At.cons {t:ByteArray} {k:Nat} {x:UInt8} {l:Bs} (h:At t k (x::l)):k<t.size/\byt t k=x.toNat/\At t (k+1) l:=by
 obtain⟨r,hr⟩:=h;have hk:k<t.data.toList.length:=by
  rcases Nat.lt_or_ge k t.data.toList.length with h|h
  ·exact h
  ·rw[List.drop_eq_nil_of_le h]at hr;cases hr
 rw[List.drop_eq_getElem_cons hk,List.cons_append]at hr;injection hr with h1 h2
 have hk2:k<t.size:=by rw[Array.length_toList]at hk;exact hk
 refine⟨hk2,?_,r,h2⟩;rw[zb6 t k hk2,←h1];rfl
theorem At.skip {t:ByteArray}: ∀ {a b:Bs} {k:Nat},At t k (a++b)->At t (k+a.length) b
 | [],b,k,h=>h
 |x::a,b,k,h=>by
  have:=(At.cons h).2.2.skip;rwa [show k+1+a.length=k+(x::a).length by simp;omega]at this
theorem At.take {t:ByteArray} {a b:Bs} {k:Nat} (h:At t k (a++b)):At t k a:=by
 obtain⟨r,hr⟩:=h;exact⟨b++r,by rw[hr,List.append_assoc]⟩
theorem At.le {t:ByteArray}: ∀ {a:Bs} {k:Nat},At t k a->k<=t.size->k+a.length<=t.size
 | [],k,_,hk=>hk
 |x::a,k,h,_=>by
  have h1:=At.cons h;have:=At.le h1.2.2 (by omega);simp;omega
theorem At.get {t:ByteArray}: ∀ {a:Bs} {k:Nat},At t k a-> ∀j (hj:j<a.length),byt t (k+j)=(a[j]'hj).toNat
 | [],k,_,j,hj=>absurd hj (by simp)
 |x::a,k,h,0,hj=>(At.cons h).2.1
 |x::a,k,h,j+1,hj=>by
  have:=At.get (At.cons h).2.2 j (by simpa using hj);rw[show k+(j+1)=k+1+j by omega,this];rfl
theorem low_esc(t:ByteArray)(k c:Nat)(hc:c<128)(h:At t k (qb (UInt8.ofNat c))):byt t k≠34/\zf2 t k=some (c,(qb (UInt8.ofNat c)).length):=by
 have key: ∀c:Nat,c<128->
  (∃x:UInt8,qb (UInt8.ofNat c)=[92,x]/\((x.toNat=34\/x.toNat=92\/x.toNat=47)/\x.toNat=c\/x.toNat=98/\c=8\/x.toNat=102/\c=12\/x.toNat=110/\c=10\/x.toNat=114/\c=13\/x.toNat=116/\c=9))
  \/(∃x y:UInt8,qb (UInt8.ofNat c)=[92,117,48,48,x,y]/\hex4 48 48 x.toNat y.toNat=some c/\c<55296)
  \/(qb (UInt8.ofNat c)=[UInt8.ofNat c]/\32<=c/\c≠34/\c≠92):=by
  intro c hc;by_cases h1:c=34\/c=92\/c=8\/c=12\/c=10\/c=13\/c=9
  ·left;rcases h1 with rfl|rfl|rfl|rfl|rfl|rfl|rfl
   ·exact ⟨34,by decide,by decide⟩
   ·exact ⟨92,by decide,by decide⟩
   ·exact ⟨98,by decide,by decide⟩
   ·exact ⟨102,by decide,by decide⟩
   ·exact ⟨110,by decide,by decide⟩
   ·exact ⟨114,by decide,by decide⟩
   ·exact ⟨116,by decide,by decide⟩
  ·right;by_cases h2:c<32
   ·left;refine⟨hexd (c/16),hexd (c%16),?_,?_,by omega⟩
    ·have: ∀c:Nat,c<32-> ¬(c=34\/c=92\/c=8\/c=12\/c=10\/c=13\/c=9)->qb (UInt8.ofNat c)=[92,117,48,48,hexd (c/16),hexd (c%16)]:=by decide+kernel
     exact this c h2 h1
    ·have: ∀c:Nat,c<32->hex4 48 48 (hexd (c/16)).toNat (hexd (c%16)).toNat=some c:=by decide+kernel
     exact this c h2
   ·right;have: ∀c:Nat,c<128->32<=c->c≠34->c≠92->qb (UInt8.ofNat c)=[UInt8.ofNat c]:=by decide+kernel
    exact⟨this c hc (by omega) (by omega) (by omega),by omega,by omega,by omega⟩
 rcases key c hc with ⟨x,e,hx⟩|⟨x,y,e,hx,h5⟩|⟨e,h32,h34,h92⟩
 ·rw[e]at h ⊢;obtain⟨k1,b1,h⟩:=h.cons;obtain⟨k2,b2,_⟩:=h.cons;have b1':byt t k=92:=b1;refine⟨by omega,?_⟩;unfold zf2 escM;rw[if_pos b1',if_neg (by omega),b2];show _=some (c,2);rcases hx with ⟨hx,rfl⟩|⟨hx,rfl⟩|⟨hx,rfl⟩|⟨hx,rfl⟩|⟨hx,rfl⟩|⟨hx,rfl⟩
  ·rw[if_pos hx]
  all_goals (rw[hx];rfl)
 ·rw[e]at h ⊢;obtain⟨k1,b1,h⟩:=h.cons;obtain⟨k2,b2,h⟩:=h.cons;obtain⟨k3,b3,h⟩:=h.cons;obtain⟨k4,b4,h⟩:=h.cons;obtain⟨k5,b5,h⟩:=h.cons;obtain⟨k6,b6,h⟩:=h.cons;have b1':byt t k=92:=b1;have b2':byt t (k+1)=117:=b2;have b3':byt t (k+2)=48:=b3;have b4':byt t (k+3)=48:=b4;have b5':byt t (k+4)=x.toNat:=b5;have b6':byt t (k+5)=y.toNat:=b6;refine⟨by omega,?_⟩;have hu:uni t k=some c:=by
   unfold uni;rw[if_pos ⟨by omega,b1',b2'⟩,b3',b4',b5',b6',hx]
  have he:escU t k=some (c,6):=by
   unfold escU;rw[hu];simp only;rw[if_neg (by omega),if_pos (by omega)]
  unfold zf2 escM;rw[if_pos b1',if_neg (by omega),b2',he];rfl
 ·rw[e]at h ⊢;obtain⟨k1,b1,h⟩:=h.cons;have hn:(UInt8.ofNat c).toNat=c:=UInt8.toNat_ofNat_of_lt' (show c<256 by omega);rw[hn]at b1;have hd:=zf4 t k (by omega);rw[b1]at hd;refine⟨by omega,?_⟩;unfold zf2;rw[if_neg (by omega),if_neg (by omega),if_neg (by unfold bad;rw[hd];simp only;omega),hd];rfl
theorem part_at(s t:ByteArray)(p k:Nat)(hp:p<s.size)(hb: ¬bad s p)(h:At t k (zq1 s p)):byt t k≠34/\zf2 t k=some ((Utf8.decode s p).1,(zq1 s p).length):=by
 unfold zq1 at h ⊢;by_cases hlow:byt s p<128
 ·rw[if_pos hlow]at h ⊢;rw[zf4 s p hlow];exact low_esc t k _ hlow h
 ·rw[if_neg hlow]at h ⊢;have hlen:=zi9 s p hp;have hwp:=zi4 s p;have hk:k<t.size:=by
   cases hr:zd2 s p with
   |nil=>rw[hr]at hlen;simp at hlen;omega
   |cons x l=>rw[hr]at h;exact h.cons.1
  have hle:=h.le (by omega);have hg: ∀j,j<wd s p->byt t (k+j)=byt s (p+j):=fun j hj=>by
   rw[h.get j (by omega)];have hle2:=zp8 s p hp;rw[zb6 s (p+j) (by omega)];simp only[zd2,List.getElem_take,List.getElem_drop];rfl
  have hd:=dec_same s t p k hb (by omega) hg;have h0:=hg 0 hwp;rw[Nat.add_zero,Nat.add_zero]at h0;refine⟨by omega,?_⟩;unfold zf2;rw[if_neg (by omega),if_neg (by omega),if_neg (by unfold bad at hb ⊢;rw[hd];exact hb),hd,hlen];rfl
theorem zt4(s:ByteArray)(p:Nat):s.data.toList.drop p=zd2 s p++s.data.toList.drop (p+wd s p):=by
 unfold zd2;rw[←List.drop_drop,List.take_append_drop]
theorem quoteB_drop(s:ByteArray)(p:Nat)(h:p<s.size):ze1 (s.data.toList.drop p)=zq1 s p++ze1 (s.data.toList.drop (p+wd s p)):=by
 rw[zt4 s p,zA3]
 congr 1
 unfold zq1;by_cases hb:byt s p<128
 ·rw[if_pos hb,zq s p h hb];show qb _++[]=_;rw[List.append_nil]
 ·rw[if_neg hb];exact zr5 _ (zo0 s p h (by omega))
theorem zz5: ∀ {a b:Bs},Lib.byteCells a=Lib.byteCells b->a=b
 | [],[],_=>rfl
 | [],_::_,h=>by cases h
 |_::_,[],h=>by cases h
 |x::a,y::b,h=>by
  simp only[Lib.byteCells,List.map_cons,List.cons.injEq,Value.int.injEq,true_and]at h;rw[zz5 (a:=a) (b:=b) h.2,UInt8.toNat_inj.1 (by omega:x.toNat=y.toNat)]
theorem encB_at(s:ByteArray)(p:Nat)(h:p<s.size)(hb: ¬bad s p):encB (Utf8.decode s p).1=zd2 s p:=
 zz5 ((zv9 _).symm.trans (zm7 s p h hb))
theorem scan_quoted(s t:ByteArray): ∀(f p k g:Nat),(vld s f p).2=true->p<=s.size->s.size<=p+f->At t k (ze1 (s.data.toList.drop p)++[34])->t.size<=k+g->
 ∃rs,zd rs=s.data.toList.drop p/\ ∀acc,zc5 t g k acc=(k+(ze1 (s.data.toList.drop p)).length+1,0,acc++rs):=by
 intro f;induction f with
 |zero=>
  intro p k g _ hp hf hat hg;have hnil:s.data.toList.drop p=[]:=List.drop_eq_nil_of_le (by rw[Array.length_toList];exact hf);rw[hnil]at hat ⊢;obtain⟨hk,hb,_⟩:=At.cons (x:=34) (l:=[]) hat;refine⟨[],rfl,fun acc=> ?_⟩;obtain⟨g,rfl⟩: ∃i,g=i+1:=⟨g-1,by omega⟩;rw[zc5,if_pos hk,if_pos (show byt t k=34 from hb),List.append_nil];rfl
 |succ f ih=>
  intro p k g hv hp hf hat hg;by_cases hps:p<s.size
  ·have hnb: ¬bad s p:=fun h=>by
    rw[vld_bad s f p hps h]at hv;cases hv
   rw[zD s f p hps hnb]at hv;have hwp:=zi4 s p;have hwl:=zp8 s p hps;rw[quoteB_drop s p hps]at hat ⊢;rw[List.append_assoc]at hat;obtain⟨h34,hpart⟩:=part_at s t p k hps hnb hat.take;obtain⟨rs,hrs,hsc⟩:=ih (p+wd s p) (k+(zq1 s p).length) (g-1) hv hwl (by omega) hat.skip (by
    have h1:1<=(zq1 s p).length:=by
     have:=zn3 (s:=t) (p:=k) (r:=_) (n:=_) (by
      rcases Nat.lt_or_ge k t.size with h|h
      ·exact h
      ·exfalso;cases hz:zq1 s p with
       |nil=>
        have:=hat;rw[hz,List.nil_append]at this;cases hz2:ze1 (s.data.toList.drop (p+wd s p))++[34] with
        |nil=>simp at hz2
        |cons x l=>rw[hz2]at this;have:=this.cons.1;omega
       |cons x l=>have h2:=hat;rw[hz]at h2;have:=(At.cons (l:=l++_) h2).1;omega) hpart
     omega
    omega)
   have hkt:k<t.size:=by
    cases hz:zq1 s p++(ze1 (s.data.toList.drop (p+wd s p))++[34]) with
    |nil=>simp at hz
    |cons x l=>rw[hz]at hat;exact hat.cons.1
   obtain⟨g,rfl⟩: ∃i,g=i+1:=⟨g-1,by omega⟩;refine⟨(Utf8.decode s p).1::rs,?_,fun acc=> ?_⟩
   ·show encB _++zd rs=_;rw[hrs,encB_at s p hps hnb,←zt4]
   ·rw[zc5,if_pos hkt,if_neg h34,hpart];simp only;rw[show g+1-1=g by omega]at hsc;rw[hsc,List.append_assoc,List.length_append];simp only[List.singleton_append,Prod.mk.injEq,and_true];omega
  ·have hnil:s.data.toList.drop p=[]:=List.drop_eq_nil_of_le (by rw[Array.length_toList];show s.size<=p;omega);rw[hnil]at hat ⊢;obtain⟨hk,hb,_⟩:=At.cons (x:=34) (l:=[]) hat;refine⟨[],rfl,fun acc=> ?_⟩;obtain⟨g,rfl⟩: ∃i,g=i+1:=⟨g-1,by omega⟩;rw[zc5,if_pos hk,if_pos (show byt t k=34 from hb),List.append_nil];rfl
theorem ofNat_toNat {n:Nat} (h:n<256):(UInt8.ofNat n).toNat=n:=UInt8.toNat_ofNat_of_lt' (show n<256 from h)
theorem dec_enc(t:ByteArray)(k r:Nat)(hr:r<=1114111/\(r<55296\/57343<r))(h:At t k (encB r))(hk:k<=t.size):Utf8.decode t k=(r,(encB r).length)/\ ¬bad t k:=by
 obtain⟨hr1,hr2⟩:=hr;have hle:=h.le hk;have key:Utf8.decode t k=(r,(encB r).length):=by
  rw[zk3];unfold encB at h hle ⊢;by_cases h1:r<=127
  ·rw[Lib.encodeRuneZ_one (by omega) (by omega)]at h hle ⊢;simp only[List.map_cons,List.map_nil,List.length_cons,List.length_nil]at h hle ⊢;obtain⟨_,b0,_⟩:=h.cons;rw[show ((r:Int)).toNat=r by omega,ofNat_toNat (by omega)]at b0;rw[b0];unfold Lib.decodeN;rw[if_pos (by omega)]
  ·by_cases h2:r<=2047
   ·rw[Lib.encodeRuneZ_two (by omega) (by omega)]at h hle ⊢;simp only[List.map_cons,List.map_nil,List.length_cons,List.length_nil]at h hle ⊢;obtain⟨_,b0,h⟩:=h.cons;obtain⟨_,b1,_⟩:=h.cons;rw[ofNat_toNat (by omega)]at b0 b1;generalize byt t k=c0 at *;generalize byt t (k+1)=c1 at *;unfold Lib.decodeN;rw[if_neg (by omega),if_pos (by omega),if_pos (by omega)];simp only[Prod.mk.injEq,and_true];omega
   ·by_cases h3:r<=65535
    ·rw[Lib.encodeRuneZ_three (by omega)]at h hle ⊢;simp only[List.map_cons,List.map_nil,List.length_cons,List.length_nil]at h hle ⊢;obtain⟨_,b0,h⟩:=h.cons;obtain⟨_,b1,h⟩:=h.cons;obtain⟨_,b2,_⟩:=h.cons;rw[ofNat_toNat (by omega)]at b0 b1 b2;rw[show k+1+1=k+2 by omega]at b2;generalize byt t k=c0 at *;generalize byt t (k+1)=c1 at *;generalize byt t (k+2)=c2 at *;unfold Lib.decodeN;rw[if_neg (by omega),if_neg (by omega),if_pos (by omega),if_pos (by omega)];simp only[Prod.mk.injEq,and_true];omega
    ·rw[Lib.encodeRuneZ_four (by omega) (by omega)]at h hle ⊢;simp only[List.map_cons,List.map_nil,List.length_cons,List.length_nil]at h hle ⊢;obtain⟨_,b0,h⟩:=h.cons;obtain⟨_,b1,h⟩:=h.cons;obtain⟨_,b2,h⟩:=h.cons;obtain⟨_,b3,_⟩:=h.cons;rw[ofNat_toNat (by omega)]at b0 b1 b2 b3;rw[show k+1+1=k+2 by omega]at b2;rw[show k+1+1+1=k+3 by omega]at b3;generalize byt t k=c0 at *;generalize byt t (k+1)=c1 at *;generalize byt t (k+2)=c2 at *;generalize byt t (k+3)=c3 at *;unfold Lib.decodeN;rw[if_neg (by omega),if_neg (by omega),if_neg (by omega),if_pos (by omega),if_pos (by omega)];simp only[Prod.mk.injEq,and_true];omega
 refine⟨key,fun hb=> ?_⟩;unfold bad at hb;rw[key]at hb;simp only at hb;obtain⟨e1,e2⟩:=hb;subst e1;have:(encB 65533).length=3:=by decide+kernel
 omega
theorem vld_enc(t:ByteArray): ∀(rs:List Nat) (f k:Nat),zx2 rs->t.data.toList.drop k=zd rs->k<=t.size->t.size<=k+f->(vld t f k).2=true
 | [],f,k,_,he,hk,hf=>by
   have:t.size<=k:=by
    have h:=List.drop_eq_nil_iff.1 he;rwa [Array.length_toList]at h
   rw[zN t f k (by omega)]
 |r::rs,f,k,ho,he,hk,hf=>by
  have hr:=ho r (by simp);have he':t.data.toList.drop k=encB r++zd rs:=he;have hat:At t k (encB r):=⟨_,he'⟩;obtain⟨hd,hb⟩:=dec_enc t k r hr hat hk;have hle:=hat.le hk;have hw:wd t k=(encB r).length:=by unfold wd;rw[hd]
  have hwp:=zi4 t k;obtain⟨f,rfl⟩: ∃g,f=g+1:=⟨f-1,by omega⟩;rw[zD t f k (by omega) hb];refine vld_enc t rs f _ (fun x hx=>ho x (by simp[hx])) ?_ (by omega) (by omega);rw[hw,←List.drop_drop,he',List.drop_left]
theorem valid_enc(rs:List Nat)(h:zx2 rs):(valid (st (zd rs))).2=true:=by
 have e:(st (zd rs)).data.toList=zd rs:=zc7 _;exact vld_enc (st (zd rs)) rs _ 0 h (by rw[e];rfl) (Nat.zero_le _) (by omega)
theorem zu5 {s:ByteArray} (h:(valid s).2=true):zg6 s=(34::ze1 s.data.toList++[34],0):=by unfold zg6;rw[if_pos h]
theorem quoteM_no {s:ByteArray} (h: ¬(valid s).2=true):zg6 s=([],2):=by unfold zg6;rw[if_neg h]
theorem scan_at(s t:ByteArray)(a:Nat)(h:(valid s).2=true)(hat:At t a (zg6 s).1): ∃rs,zd rs=s.data.toList/\zb7 t a=(a+(zg6 s).1.length,0,rs):=by
 rw[zu5 h]at hat ⊢;obtain⟨ha,hb,hat⟩:=At.cons (x:=34) (l:=ze1 s.data.toList++[34]) hat;obtain⟨rs,h1,h2⟩:=scan_quoted s t s.size 0 (a+1) t.size h (Nat.zero_le _) (by omega) hat (by omega);refine⟨rs,h1,?_⟩;unfold zb7;rw[if_pos ⟨ha,hb⟩,h2];simp only[List.drop_zero,List.nil_append,Prod.mk.injEq,and_true,List.length_cons,List.length_append,List.length_nil,List.cons_append];omega
end Go.Proofs.YtkafjblfjdpdaaaGreatDoor
