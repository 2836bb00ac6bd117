/-
  WALKS: the document's own answers of layer 1: wide, Next, Good.
  WALKS: the document's own answers of layer 1: Good, Valid.
  WALKS: the document's Valid.
  WALKS: quote.write, quote.Quote.
-/
import Derived.Test.YtkafjblfjdpdaaaGreatDoorVlBC
set_option maxHeartbeats 4000000
set_option maxRecDepth 1000000
namespace Go.Proofs.YtkafjblfjdpdaaaGreatDoor
open Go.RowKit
def zF2(c:Int):Int:=if c<128 then 1 else if 194<=c/\c<=223 then 2 else if 224<=c/\c<=239 then 3 else if 240<=c/\c<=244 then 4 else 0
theorem rwide_any(c:Int)(w:World):
 Calls Tryz.prog 117 #[.int .i64 c] w fun e w'=>e= .returned (.int .i64 (zF2 c))/\w=w':=by
 go_enter Tryz.func117,Tryz.ntmps117
 go_wp2
 all_goals go_ret
 all_goals (refine⟨?_,rfl⟩;unfold zF2)
 ·rw[if_pos (by omega)];rfl
 ·rw[if_neg (by omega),if_pos (by omega)];rfl
 ·rw[if_neg (by omega),if_neg (by omega),if_pos (by omega)];rfl
 ·rw[if_neg (by omega),if_neg (by omega),if_neg (by omega),if_pos (by omega)];rfl
 ·rw[if_neg (by omega),if_neg (by omega),if_neg (by omega),if_neg (by omega)];rfl
 ·rw[if_neg (by omega),if_neg (by omega),if_neg (by omega),if_neg (by omega)];rfl
def racc(s:ByteArray)(p:Nat)(v0:Int):Nat->Int
 |0=>v0
 |k+1=>64*racc s p v0 k+(byt s (p+(k+1)):Int)-128
def conts(s:ByteArray)(p k:Nat):Prop:= ∀j,1<=j->j<=k->128<=byt s (p+j)/\byt s (p+j)<=191
theorem racc_bd(s:ByteArray)(p:Nat)(v0:Int)(h0:0<=v0)(h1:v0<=31): ∀k,k<=3->conts s p k->0<=racc s p v0 k/\racc s p v0 k<=32*64^k-1
 |0,_,_=>by simp[racc];omega
 |k+1,h,hc=>by
  have ih:=racc_bd s p v0 h0 h1 k (by omega) (fun j a b=>hc j a (by omega));have:=hc (k+1) (by omega) (Nat.le_refl _);have hp:(64:Int)^(k+1)=64*64^k:=by rw[Int.pow_succ];omega
  rw[hp];unfold racc;omega
theorem racc_8(s:ByteArray)(p:Nat)(v0:Int)(h0:0<=v0)(h1:v0<=31)(k:Nat)(hk:k<=3)(hc:conts s p k):0<=racc s p v0 k/\racc s p v0 k<=8388607:=by
 have:=racc_bd s p v0 h0 h1 k hk hc
 match k,hk with
 |0,_=>simp at this;omega
 |1,_=>simp at this;omega
 |2,_=>simp at this;omega
 |3,_=>simp at this;omega
theorem dec_none(s:ByteArray)(p:Nat)(h:zF2 (byt s p)=0\/(s.size:Int)-p<zF2 (byt s p))(hp:p<s.size):Utf8.decode s p=(65533,1):=by
 have h0:=zd3 s p;rw[zk3];generalize byt s (p+1)=b1 at *;generalize byt s (p+2)=b2 at *;generalize byt s (p+3)=b3 at *;generalize byt s p=b0 at *;unfold zF2 at h;unfold Lib.decodeN
 repeat' split at h
 all_goals (repeat' split)
 all_goals first|rfl|(exfalso;omega)
theorem zI4(s:ByteArray)(p j:Nat)(hj:1<=j)(h:(j:Int)<zF2 (byt s p))(hb:byt s (p+j)<128\/191<byt s (p+j)):Utf8.decode s p=(65533,1):=by
 have h0:=zd3 s p;have h1:=zd3 s (p+j);have hw:zF2 (byt s p)<=4:=by
  unfold zF2
  repeat' split
  all_goals omega
 have e:j=1\/j=2\/j=3:=by omega
 rw[zk3];rcases e with rfl|rfl|rfl
 all_goals
  generalize byt s (p+1)=b1 at *;generalize byt s (p+2)=b2 at *;generalize byt s (p+3)=b3 at *;generalize byt s p=b0 at *;unfold zF2 at h;unfold Lib.decodeN
  repeat' split at h
  all_goals (repeat' split)
  all_goals first|rfl|(exfalso;omega)
theorem dec_w1(s:ByteArray)(p:Nat)(h:byt s p<128):Utf8.decode s p=(byt s p,1):=zf4 s p h
theorem dec_w2(s:ByteArray)(p:Nat)(h:194<=byt s p/\byt s p<=223)(hs:p+2<=s.size)(hc:conts s p 1):
 128<=racc s p (byt s p-192) 1/\racc s p (byt s p-192) 1<=2047/\Utf8.decode s p=((racc s p (byt s p-192) 1).toNat,2):=by
 have c1:=hc 1 (by omega) (by omega);rw[zk3];unfold racc racc Lib.decodeN;simp only[Nat.zero_add];generalize byt s (p+1)=b1 at *;generalize byt s p=b0 at *;rw[if_neg (by omega),if_pos (by omega),if_pos (by omega)];refine⟨by omega,by omega,?_⟩;rw[Prod.mk.injEq];exact⟨by omega,rfl⟩
theorem dec_w3(s:ByteArray)(p:Nat)(h:224<=byt s p/\byt s p<=239)(hs:p+3<=s.size)(hc:conts s p 2):
 Utf8.decode s p=if racc s p (byt s p-224) 2<2048\/(55296<=racc s p (byt s p-224) 2/\racc s p (byt s p-224) 2<57344) then(65533,1) else((racc s p (byt s p-224) 2).toNat,3):=by
 have c1:=hc 1 (by omega) (by omega);have c2:=hc 2 (by omega) (by omega);rw[zk3];unfold racc racc racc Lib.decodeN;simp only[Nat.zero_add,Nat.reduceAdd];generalize byt s (p+1)=b1 at *;generalize byt s (p+2)=b2 at *;generalize byt s p=b0 at *;rw[if_neg (by omega),if_neg (by omega),if_pos (by omega)];by_cases h1:(64*(64*((b0:Int)-224)+(b1:Int)-128)+(b2:Int)-128<2048\/55296<=64*(64*((b0:Int)-224)+(b1:Int)-128)+(b2:Int)-128/\64*(64*((b0:Int)-224)+(b1:Int)-128)+(b2:Int)-128<57344)
 ·rw[if_pos h1,if_neg (by omega)]
 ·rw[if_neg h1,if_pos (by omega),Prod.mk.injEq];exact⟨by omega,rfl⟩
theorem dec_w4(s:ByteArray)(p:Nat)(h:240<=byt s p/\byt s p<=244)(hs:p+4<=s.size)(hc:conts s p 3):
 Utf8.decode s p=if racc s p (byt s p-240) 3<65536\/1114111<racc s p (byt s p-240) 3 then(65533,1) else((racc s p (byt s p-240) 3).toNat,4):=by
 have c1:=hc 1 (by omega) (by omega);have c2:=hc 2 (by omega) (by omega);have c3:=hc 3 (by omega) (by omega);rw[zk3];unfold racc racc racc racc Lib.decodeN;simp only[Nat.zero_add,Nat.reduceAdd];generalize byt s (p+1)=b1 at *;generalize byt s (p+2)=b2 at *;generalize byt s (p+3)=b3 at *;generalize byt s p=b0 at *;generalize hV:64*(64*(64*((b0:Int)-240)+(b1:Int)-128)+(b2:Int)-128)+(b3:Int)-128=V;rw[if_neg (by omega),if_neg (by omega),if_neg (by omega),if_pos (by omega)];by_cases h1:(V<65536\/1114111<V)
 ·rw[if_pos h1,if_neg (by omega)]
 ·rw[if_neg h1,if_pos (by omega),Prod.mk.injEq];exact⟨by omega,rfl⟩
theorem zy0(s:ByteArray)(a:Int)(w:World)(hs:s.size<=maxLen)(ha:-9223372036854775808<=a/\a<=9223372036854775807):
 Calls Tryz.prog 74 #[.string s,.int .i64 a] w fun e w'=>e= .returned (.tuple #[.int .i32 (nxt s a).1,.int .i64 (nxt s a).2])/\w=w':=by
 unfold maxLen at hs;obtain⟨ha1,ha2⟩:=ha;by_cases h0:a<0\/(s.size:Int)<=a
 ·have hn:nxt s a=(0,0):=by unfold nxt;rw[if_pos h0]
  rw[hn];clear hn;rcases h0 with h0|h0
  ·go_enter Tryz.func74,Tryz.ntmps74
   go_wp2_with fail
   go_ret2
   exact⟨rfl,rfl⟩
  ·by_cases h1:a<0
   ·omega
   ·go_enter Tryz.func74,Tryz.ntmps74
    go_wp2_with fail
    go_ret2
    exact⟨rfl,rfl⟩
 ·obtain ⟨p,rfl⟩:=Int.eq_ofNat_of_zero_le (by omega:0<=a);have hp:p<s.size:=by omega
  have hpz:(p:Int)<(s.size:Int):=by omega
  have hn:nxt s (p:Int)=(((Utf8.decode s p).1:Int),((Utf8.decode s p).2:Int)):=by unfold nxt;rw[if_neg (by omega)];rfl
  have hb:=zb6 s p hp;have hlt:=zd3 s p;rw[hn];clear hn;have hbz:(s[p].toNat:Int)=(byt s p:Int):=by omega
  go_enter Tryz.func74,Tryz.ntmps74
  clear hb;go_wp2_with fail
  refine(rwide_any _ _).mono ?_;generalize hR:zF2 (byt s p:Int)=R;have HR:=hq hR;have hcase:(R=0\/(s.size:Int)-p<R)\/(R=1/\byt s p<128)\/(R=2/\194<=byt s p/\byt s p<=223/\p+2<=s.size)\/(R=3/\224<=byt s p/\byt s p<=239/\p+3<=s.size)\/(R=4/\240<=byt s p/\byt s p<=244/\p+4<=s.size):=by
   unfold zF2 at hR
   repeat' split at hR
   all_goals omega
  clear hR;rintro e w' ⟨rfl,rfl⟩;rcases hcase with hcase|⟨rfl,hc⟩|⟨rfl,hc1,hc2,hc3⟩|⟨rfl,hc1,hc2,hc3⟩|⟨rfl,hc1,hc2,hc3⟩
  ·have HD:=hq (dec_none s p (by rw[HR.o];exact hcase) hp);by_cases hz:R=0
   ·subst hz;go_wp2
    go_ret2
    rw[HD.o];exact⟨rfl,rfl⟩
   ·have hz2:(R==0)=false:=beq_eq_false_iff_ne.2 hz;have hz3:(s.size:Int)-p<R:=by omega
    go_wp2
    go_ret2
    rw[HD.o];exact⟨rfl,rfl⟩
  ·have HD:=hq (dec_w1 s p hc);go_wp2
   refine wp_loop_rounds 1 ?_;rw[rounds_succ];go_wp2
   go_ret2
   rw[HD.o];exact⟨rfl,rfl⟩
  ·go_wp2
   go_loop [7,8] (fun v i=> ∃k:Nat,1<=k/\k<=2/\i= .int .i64 k/\v= .int .i64 (racc s p (byt s p-192) (k-1))/\Hq (conts s p (k-1))) (fun _ i=>2-(intOf i).toNat)
   case atStart=>exact⟨1,by omega,by omega,rfl,rfl,hq (fun j a b=>by omega)⟩
   case round=>
    obtain⟨k,hk1,hk2,rfl,rfl,hct⟩:=hrel;have hbd:=racc_8 s p (byt s p-192) (by omega) (by omega) (k-1) (by omega) hct.o;by_cases hk:k<2
    ·have hbz2:((s[p+k]'(by omega)).toNat:Int)=(byt s (p+k):Int):=by rw[zb6 s (p+k) (by omega)]
     have hlt2:=zd3 s (p+k);have hsz2:(p:Int)+(k:Int)<(s.size:Int):=by omega
     have hr:Hq (racc s p (byt s p-192) (k+1-1)=64*racc s p (byt s p-192) (k-1)+(byt s (p+k):Int)-128):=hq (by
      obtain⟨m,rfl⟩: ∃m,k=m+1:=⟨k-1,by omega⟩;rfl)
     have hbk:Hq (byt s (p+k)<128\/191<byt s (p+k)->Utf8.decode s p=(65533,1)):=hq (zI4 s p k hk1 (by rw[HR.o];omega));generalize racc s p (byt s p-192) (k-1)=V at *;generalize hB:byt s (p+k)=B at *;have HB:=hq hB;clear hB;go_wp2
     all_goals first
      |(go_ret2;rw[hbk.o (by omega)];exact⟨rfl,rfl⟩)
      |skip
     ·go_round
      case rel=>
       refine⟨k+1,by omega,by omega,by go_num,by rw[hr.o],hq (fun j a b=> ?_)⟩;by_cases hjk:j=k
       ·subst hjk;rw[HB.o];omega
       ·exact hct.o j a (by omega)
      case measure=>simp[intOf];omega
    ·obtain rfl:k=2:=by omega
     obtain⟨hv1,hv2,hd⟩:=dec_w2 s p ⟨hc1,hc2⟩ hc3 hct.o;have HD:=hq hd;clear hd;simp only[Nat.add_one_sub_one]at *;generalize racc s p (byt s p-192) 1=V at *;go_wp2
     go_ret2
     rw[HD.o];exact⟨zo2 (zb5 (by simp only;omega)) rfl,rfl⟩
  ·go_wp2
   go_loop [7,8] (fun v i=> ∃k:Nat,1<=k/\k<=3/\i= .int .i64 k/\v= .int .i64 (racc s p (byt s p-224) (k-1))/\Hq (conts s p (k-1))) (fun _ i=>3-(intOf i).toNat)
   case atStart=>exact⟨1,by omega,by omega,rfl,rfl,hq (fun j a b=>by omega)⟩
   case round=>
    obtain⟨k,hk1,hk2,rfl,rfl,hct⟩:=hrel;have hbd:=racc_8 s p (byt s p-224) (by omega) (by omega) (k-1) (by omega) hct.o;by_cases hk:k<3
    ·have hbz2:((s[p+k]'(by omega)).toNat:Int)=(byt s (p+k):Int):=by rw[zb6 s (p+k) (by omega)]
     have hlt2:=zd3 s (p+k);have hsz2:(p:Int)+(k:Int)<(s.size:Int):=by omega
     have hr:Hq (racc s p (byt s p-224) (k+1-1)=64*racc s p (byt s p-224) (k-1)+(byt s (p+k):Int)-128):=hq (by
      obtain⟨m,rfl⟩: ∃m,k=m+1:=⟨k-1,by omega⟩;rfl)
     have hbk:Hq (byt s (p+k)<128\/191<byt s (p+k)->Utf8.decode s p=(65533,1)):=hq (zI4 s p k hk1 (by rw[HR.o];omega));generalize racc s p (byt s p-224) (k-1)=V at *;generalize hB:byt s (p+k)=B at *;have HB:=hq hB;clear hB;go_wp2
     all_goals first
      |(go_ret2;rw[hbk.o (by omega)];exact⟨rfl,rfl⟩)
      |skip
     ·go_round
      case rel=>
       refine⟨k+1,by omega,by omega,by go_num,by rw[hr.o],hq (fun j a b=> ?_)⟩;by_cases hjk:j=k
       ·subst hjk;rw[HB.o];omega
       ·exact hct.o j a (by omega)
      case measure=>simp[intOf];omega
    ·obtain rfl:k=3:=by omega
     have HD:=hq (dec_w3 s p ⟨hc1,hc2⟩ hc3 hct.o);have hbd3:=(racc_bd s p (byt s p-224) (by omega) (by omega) 2 (by omega) hct.o).2;simp only[Nat.reduceSub]at *;generalize racc s p (byt s p-224) 2=V at *;go_wp2
     all_goals go_ret2
     all_goals rw[HD.o]
     all_goals first
      |(rw[if_pos (by omega)];exact⟨rfl,rfl⟩)
      |(rw[if_neg (by omega)];exact⟨zo2 (zb5 (by simp only;omega)) rfl,rfl⟩)
  ·go_wp2
   go_loop [7,8] (fun v i=> ∃k:Nat,1<=k/\k<=4/\i= .int .i64 k/\v= .int .i64 (racc s p (byt s p-240) (k-1))/\Hq (conts s p (k-1))) (fun _ i=>4-(intOf i).toNat)
   case atStart=>exact⟨1,by omega,by omega,rfl,rfl,hq (fun j a b=>by omega)⟩
   case round=>
    obtain⟨k,hk1,hk2,rfl,rfl,hct⟩:=hrel;have hbd:=racc_8 s p (byt s p-240) (by omega) (by omega) (k-1) (by omega) hct.o;by_cases hk:k<4
    ·have hbz2:((s[p+k]'(by omega)).toNat:Int)=(byt s (p+k):Int):=by rw[zb6 s (p+k) (by omega)]
     have hlt2:=zd3 s (p+k);have hsz2:(p:Int)+(k:Int)<(s.size:Int):=by omega
     have hr:Hq (racc s p (byt s p-240) (k+1-1)=64*racc s p (byt s p-240) (k-1)+(byt s (p+k):Int)-128):=hq (by
      obtain⟨m,rfl⟩: ∃m,k=m+1:=⟨k-1,by omega⟩;rfl)
     have hbk:Hq (byt s (p+k)<128\/191<byt s (p+k)->Utf8.decode s p=(65533,1)):=hq (zI4 s p k hk1 (by rw[HR.o];omega));generalize racc s p (byt s p-240) (k-1)=V at *;generalize hB:byt s (p+k)=B at *;have HB:=hq hB;clear hB;go_wp2
     all_goals first
      |(go_ret2;rw[hbk.o (by omega)];exact⟨rfl,rfl⟩)
      |skip
     ·go_round
      case rel=>
       refine⟨k+1,by omega,by omega,by go_num,by rw[hr.o],hq (fun j a b=> ?_)⟩;by_cases hjk:j=k
       ·subst hjk;rw[HB.o];omega
       ·exact hct.o j a (by omega)
      case measure=>simp[intOf];omega
    ·obtain rfl:k=4:=by omega
     have HD:=hq (dec_w4 s p ⟨hc1,hc2⟩ hc3 hct.o);simp only[Nat.reduceSub]at *;generalize racc s p (byt s p-240) 3=V at *;go_wp2
     all_goals go_ret2
     all_goals rw[HD.o]
     all_goals first
      |(rw[if_pos (by omega)];exact⟨rfl,rfl⟩)
      |(rw[if_neg (by omega)];exact⟨zo2 (zb5 (by simp only;omega)) rfl,rfl⟩)
theorem nxt_in(s:ByteArray)(p:Nat)(h:p<s.size):nxt s (p:Int)=(((Utf8.decode s p).1:Int),((Utf8.decode s p).2:Int)):=by
 unfold nxt;rw[if_neg (by omega)];rfl
theorem zG0(s:ByteArray)(p:Nat)(w:World)(hs:s.size<=maxLen)(hp:p<s.size):
 Calls Tryz.prog 73 #[.string s,.int .i64 p] w fun e w'=>e= .returned (.bool (decide (¬bad s p)))/\w=w':=by
 have HS:=hq hs;unfold maxLen at hs;have hwp:=zi4 s p;have HN:=hq (nxt_in s p hp);have HB:Hq (bad s p↔(Utf8.decode s p).1=65533/\(Utf8.decode s p).2=1):=hq Iff.rfl;unfold wd at hwp;generalize (Utf8.decode s p).1=C at *;generalize (Utf8.decode s p).2=K at *;generalize hG:decide (¬bad s p)=G;have HG:=hq hG;clear hG;go_enter Tryz.func73,Tryz.ntmps73
 go_wp2_with fail
 refine(zy0 s p _ HS.o (by omega)).mono ?_;rw[HN.o];rintro e w' ⟨rfl,rfl⟩;have hkp:(0:Int)<(K:Int):=by omega
 by_cases h1:C=65533
 ·have e1:((C:Int)==65533)=true:=by simp[h1]
  by_cases h2:K=1
  ·have e2:((K:Int)==1)=true:=by simp[h2]
   have g:G=false:=by rw[←HG.o];simp[HB.o,h1,h2]
   clear h1 h2;subst g;go_wp2
   go_ret
   exact⟨rfl,rfl⟩
  ·have e2:((K:Int)==1)=false:=beq_eq_false_iff_ne.2 (by omega);have g:G=true:=by rw[←HG.o];simp[HB.o,h2]
   clear h1 h2;subst g;go_wp2
   go_ret
   exact⟨rfl,rfl⟩
 ·have e1:((C:Int)==65533)=false:=beq_eq_false_iff_ne.2 (by omega);have g:G=true:=by rw[←HG.o];simp[HB.o,h1]
  clear h1;subst g;go_wp2
  go_ret
  exact⟨rfl,rfl⟩
theorem rvalid_any(s:ByteArray)(w:World)(hs:s.size<=maxLen):
 Calls Tryz.prog 56 #[.string s] w fun e w'=>e= .returned (.tuple #[.int .i64 (valid s).1,.bool (valid s).2])/\w=w':=by
 have HS:=hq hs;unfold maxLen at hs;generalize hV:valid s=V;have HV:=hq hV;clear hV;go_enter Tryz.func56,Tryz.ntmps56
 go_wp2
 go_loop [4] (fun a=> ∃(pos f:Nat),a= .int .i64 pos/\pos<=s.size/\Hq (vld s f pos=V)/\s.size<=pos+f) (fun a=>s.size-(intOf a).toNat)
 case atStart=>exact⟨0,s.size,rfl,by omega,hq HV.o,by omega⟩
 case round=>
  obtain⟨pos,f,rfl,hp,hv,hf⟩:=hrel;by_cases hlt:pos<s.size
  ·obtain ⟨f,rfl⟩: ∃g,f=g+1:=⟨f-1,by omega⟩;have hwp:=zi4 s pos;have hwl:=zp8 s pos hlt;have HN:=hq (nxt_in s pos hlt);have HBAD:Hq (bad s pos->vld s (f+1) pos=(pos,false)):=hq (fun h=>by rw[vld,if_pos hlt,if_pos h]);have HGOOD:Hq (¬bad s pos->vld s (f+1) pos=vld s f (pos+(Utf8.decode s pos).2)):=hq (fun h=>by rw[vld,if_pos hlt,if_neg h];rfl);unfold wd at hwp hwl;generalize (Utf8.decode s pos).1=C at *;generalize (Utf8.decode s pos).2=K at *;go_wp2_with fail
   refine(zG0 s pos _ HS.o hlt).mono ?_;generalize hG:decide (¬bad s pos)=G;rintro e w' ⟨rfl,rfl⟩;cases G with
   |false=>
    have hb:bad s pos:=by simpa using hG
    have hr:(pos,false)=V:=(HBAD.o hb).symm.trans hv.o;have HR:=hq hr;clear hG hb hr;go_wp2
    go_ret2
    rw[←HR.o];exact⟨rfl,rfl⟩
   |true=>
    have hb: ¬bad s pos:=by simpa using hG
    have HR:=hq ((HGOOD.o hb).symm.trans hv.o);clear hG hb;go_wp2_with fail
    refine(zy0 s pos _ HS.o (by omega)).mono ?_;rw[HN.o];rintro e w' ⟨rfl,rfl⟩;go_wp2
    go_round
    case rel=>exact⟨pos+K,f,by go_num,by omega,HR,by omega⟩
    case measure=>simp[intOf];omega
  ·have hr:=hv.o;rw[zN s f pos hlt]at hr;have HR:=hq hr;clear hr;go_wp2
   go_ret2
   rw[←HR.o];exact⟨rfl,rfl⟩
def zz1(c:Int):Option UInt8:=
 if c=34 then some 34 else if c=92 then some 92 else if c=8 then some 98 else if c=12 then some 102 else if c=10 then some 110 else if c=13 then some 114 else if c=9 then some 116 else none
theorem write_esc(B b:Nat)(l:Bs)(c:Int)(x:UInt8)(w:World)(hc:zz1 c=some x)(h:Bld B b l w)(hl:l.length+6<=140737488355328)(hB:B<=w.heap.size):
 Calls Tryz.prog 100 #[.pointer (some ⟨b,0,none⟩),.int .i32 c] w (zv2 B b (l++[92,x]) w):=by
 have H:=hq h;have key: ∀(c:Int) (x:UInt8),(c=34/\x=34\/c=92/\x=92\/c=8/\x=98\/c=12/\x=102\/c=10/\x=110\/c=13/\x=114\/c=9/\x=116)->
  Calls Tryz.prog 100 #[.pointer (some ⟨b,0,none⟩),.int .i32 c] w (zv2 B b (l++[92,x]) w):=by
  intro c x hcx;have fin: ∀w1,Wrote B b (l++[92]) w w1->Calls Tryz.prog 99 #[.pointer (some ⟨b,0,none⟩),.int .u8 (x.toNat:Int)] w1 fun e w'=>e= .returned .nilIface/\Wrote B b (l++[92,x]) w w':=fun w1 hw1=>
   (wbyte B b (l++[92]) x w1 hw1.1 (by simp;omega) (Nat.le_trans hB hw1.2.1.size)).mono fun e w' ⟨he,hh⟩=>⟨he,by
    have:=hw1.trans hh;rwa [List.append_assoc]at this⟩
  have one:Calls Tryz.prog 99 #[.pointer (some ⟨b,0,none⟩),.int .u8 92] w fun e w'=>e= .returned .nilIface/\Wrote B b (l++[92]) w w':=wbyte B b l 92 w H.o (by omega) hB
  have FIN:=hq fin;have ONE:=hq one;clear fin one;rcases hcx with ⟨rfl,rfl⟩|⟨rfl,rfl⟩|⟨rfl,rfl⟩|⟨rfl,rfl⟩|⟨rfl,rfl⟩|⟨rfl,rfl⟩|⟨rfl,rfl⟩
  all_goals
   go_enter Tryz.func100,Tryz.ntmps100
   go_wp2_with fail
   refine ONE.o.mono ?_;rintro e w1 ⟨rfl,h1⟩;go_wp2_with fail
   refine(FIN.o _ h1).mono ?_;rintro e w2 ⟨rfl,h2⟩;go_wp2_with fail
   go_end0
   exact⟨rfl,h2⟩
 unfold zz1 at hc;apply key
 repeat' split at hc
 all_goals (first|(injection hc with hc;subst hc;simp_all)|cases hc)
theorem hex_cases(c:Int)(h0:0<=c)(h1:c<32)(hc:zz1 c=none):c=0\/c=1\/c=2\/c=3\/c=4\/c=5\/c=6\/c=7\/c=11\/c=14\/c=15\/c=16\/c=17\/c=18\/c=19\/c=20\/c=21\/c=22\/c=23\/c=24\/c=25\/c=26\/c=27\/c=28\/c=29\/c=30\/c=31:=by
 have n:c≠8/\c≠9/\c≠10/\c≠12/\c≠13:=by
  refine⟨?_,?_,?_,?_,?_⟩<;>(intro h;subst h;cases hc)
 omega
def HexIs(c:Int)(x y:UInt8):Prop:=c=0/\x=48/\y=48\/c=1/\x=48/\y=49\/c=2/\x=48/\y=50\/c=3/\x=48/\y=51\/c=4/\x=48/\y=52\/c=5/\x=48/\y=53\/c=6/\x=48/\y=54\/c=7/\x=48/\y=55\/c=11/\x=48/\y=98\/c=14/\x=48/\y=101\/c=15/\x=48/\y=102\/c=16/\x=49/\y=48\/c=17/\x=49/\y=49\/c=18/\x=49/\y=50\/c=19/\x=49/\y=51\/c=20/\x=49/\y=52\/c=21/\x=49/\y=53\/c=22/\x=49/\y=54\/c=23/\x=49/\y=55\/c=24/\x=49/\y=56\/c=25/\x=49/\y=57\/c=26/\x=49/\y=97\/c=27/\x=49/\y=98\/c=28/\x=49/\y=99\/c=29/\x=49/\y=100\/c=30/\x=49/\y=101\/c=31/\x=49/\y=102
theorem hex_is(c:Int)(h0:0<=c)(h1:c<32)(hc:zz1 c=none):HexIs c (hexd (c.toNat/16)) (hexd (c.toNat%16)):=by
 unfold HexIs;rcases hex_cases c h0 h1 hc with rfl|rfl|rfl|rfl|rfl|rfl|rfl|rfl|rfl|rfl|rfl|rfl|rfl|rfl|rfl|rfl|rfl|rfl|rfl|rfl|rfl|rfl|rfl|rfl|rfl|rfl|rfl
 all_goals (repeat' (first|exact Or.inl ⟨rfl,by decide,by decide⟩|exact ⟨rfl,by decide,by decide⟩|apply Or.inr))
theorem write_hex(B b:Nat)(l:Bs)(c:Int)(x y:UInt8)(w:World)(hx:HexIs c x y)(h:Bld B b l w)(hl:l.length+6<=140737488355328)(hB:B<=w.heap.size):
 Calls Tryz.prog 100 #[.pointer (some ⟨b,0,none⟩),.int .i32 c] w (zv2 B b (l++[92,117,48,48,x,y]) w):=by
 have ONE:Hq (Calls Tryz.prog 91 #[.pointer (some ⟨b,0,none⟩),.string ⟨#[92,117,48,48]⟩] w fun e w'=>(∃n,e= .returned (.tuple #[.int .i64 n,.nilIface]))/\Wrote B b (l++[92,117,48,48]) w w'):=hq (wstring B b l [92,117,48,48] w h (by simp;omega) hB);have TWO:Hq (∀w1,Wrote B b (l++[92,117,48,48]) w w1->Calls Tryz.prog 99 #[.pointer (some ⟨b,0,none⟩),.int .u8 (x.toNat:Int)] w1 fun e w'=>e= .returned .nilIface/\Wrote B b (l++[92,117,48,48,x]) w w'):=hq fun w1 hw1=>
  (wbyte B b (l++[92,117,48,48]) x w1 hw1.1 (by simp;omega) (Nat.le_trans hB hw1.2.1.size)).mono fun e w' ⟨he,hh⟩=>⟨he,by
   have:=hw1.trans hh;rwa [List.append_assoc]at this⟩
 have THREE:Hq (∀w1,Wrote B b (l++[92,117,48,48,x]) w w1->Calls Tryz.prog 99 #[.pointer (some ⟨b,0,none⟩),.int .u8 (y.toNat:Int)] w1 fun e w'=>e= .returned .nilIface/\Wrote B b (l++[92,117,48,48,x,y]) w w'):=hq fun w1 hw1=>
  (wbyte B b (l++[92,117,48,48,x]) y w1 hw1.1 (by simp;omega) (Nat.le_trans hB hw1.2.1.size)).mono fun e w' ⟨he,hh⟩=>⟨he,by
   have:=hw1.trans hh;rwa [List.append_assoc]at this⟩
 clear h;rcases hx with ⟨rfl,rfl,rfl⟩|⟨rfl,rfl,rfl⟩|⟨rfl,rfl,rfl⟩|⟨rfl,rfl,rfl⟩|⟨rfl,rfl,rfl⟩|⟨rfl,rfl,rfl⟩|⟨rfl,rfl,rfl⟩|⟨rfl,rfl,rfl⟩|⟨rfl,rfl,rfl⟩|⟨rfl,rfl,rfl⟩|⟨rfl,rfl,rfl⟩|⟨rfl,rfl,rfl⟩|⟨rfl,rfl,rfl⟩|⟨rfl,rfl,rfl⟩|⟨rfl,rfl,rfl⟩|⟨rfl,rfl,rfl⟩|⟨rfl,rfl,rfl⟩|⟨rfl,rfl,rfl⟩|⟨rfl,rfl,rfl⟩|⟨rfl,rfl,rfl⟩|⟨rfl,rfl,rfl⟩|⟨rfl,rfl,rfl⟩|⟨rfl,rfl,rfl⟩|⟨rfl,rfl,rfl⟩|⟨rfl,rfl,rfl⟩|⟨rfl,rfl,rfl⟩|⟨rfl,rfl,rfl⟩
 all_goals
  go_enter Tryz.func100,Tryz.ntmps100
  go_wp2_with fail
  refine ONE.o.mono ?_;rintro e w1 ⟨⟨n,rfl⟩,h1⟩;go_wp2_with fail
  refine(TWO.o _ h1).mono ?_;rintro e w2 ⟨rfl,h2⟩;go_wp2_with fail
  refine(THREE.o _ h2).mono ?_;rintro e w3 ⟨rfl,h3⟩;go_wp2_with fail
  go_end0
  exact⟨rfl,h3⟩
theorem zK(B b:Nat)(l t:Bs)(c:Int)(w:World)(h0:32<=c)(h1:c<=2147483647)(hc:zz1 c=none)(ht:Lib.runeCells c=Lib.byteCells t)(h:Bld B b l w)(hl:l.length+6<=140737488355328)(hB:B<=w.heap.size):
 Calls Tryz.prog 100 #[.pointer (some ⟨b,0,none⟩),.int .i32 c] w (zv2 B b (l++t) w):=by
 have n:c≠34/\c≠92:=by
  refine⟨?_,?_⟩<;>(intro h;subst h;cases hc)
 obtain⟨n1,n2⟩:=n;have e1:(c==34)=false:=beq_eq_false_iff_ne.2 n1;have e2:(c==92)=false:=beq_eq_false_iff_ne.2 n2;have e3:(c==8)=false:=beq_eq_false_iff_ne.2 (by omega);have e4:(c==12)=false:=beq_eq_false_iff_ne.2 (by omega);have e5:(c==10)=false:=beq_eq_false_iff_ne.2 (by omega);have e6:(c==13)=false:=beq_eq_false_iff_ne.2 (by omega);have e7:(c==9)=false:=beq_eq_false_iff_ne.2 (by omega);have ONE:=hq (wrune B b l t c w (by omega) h1 ht h (by omega) hB);clear n1 n2 ht h hc;go_enter Tryz.func100,Tryz.ntmps100
 go_wp2_with fail
 refine ONE.o.mono ?_;rintro e w1 ⟨⟨n,rfl⟩,h2⟩;go_wp2_with fail
 go_end0
 exact⟨rfl,h2⟩
end Go.Proofs.YtkafjblfjdpdaaaGreatDoor
