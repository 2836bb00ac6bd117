/-
  WALKS: the document's hex, utf.
  WALKS: the document's escape.
  WALKS: the document's Read, End.
  WALKS: the document's Unquote.
  WALKS: the document's among, run, Same, Text of layer 4.
  WALKS: the document's token at a byte.
  WALKS: the document's Tokens, Text.
-/
import Derived.Test.YtkafjblfjdpdaaaGreatDoorLexv
import Derived.Test.YtkafjblfjdpdaaaGreatDoorNumKW
set_option maxHeartbeats 2000000
set_option maxRecDepth 1000000
namespace Go.Proofs.YtkafjblfjdpdaaaGreatDoor
open Go.RowKit
def zQ0(s:ByteArray):Nat->Nat->Nat->Option Nat
 |0,_,acc=>some acc
 |j+1,p,acc=>match hexv (byt s p) with
  |none=>none
  |some d=>zQ0 s j (p+1) (16*acc+d)
theorem zM5(s:ByteArray)(p:Nat):zQ0 s 4 p 0=hex4 (byt s p) (byt s (p+1)) (byt s (p+2)) (byt s (p+3)):=by
 unfold hex4;simp only[zQ0];cases hexv (byt s p) with
 |none=>rfl
 |some x=>
  simp only;cases hexv (byt s (p+1)) with
  |none=>rfl
  |some y=>
   simp only;rw[show p+1+1=p+2 by omega];cases hexv (byt s (p+2)) with
   |none=>rfl
   |some z=>
    simp only;rw[show p+2+1=p+3 by omega];cases hexv (byt s (p+3)) with
    |none=>rfl
    |some u=>simp only[Option.some.injEq];omega
def zt3(s:ByteArray)(p:Nat):Option Nat:=if p+4<=s.size then zQ0 s 4 p 0 else none
def hexZ(o:Option Nat):Int:=match o with|none=>-1|some n=>(n:Int)
theorem uni_hex(s:ByteArray)(p:Nat)(_:p+1<s.size)(h2:byt s p=92)(h3:byt s (p+1)=117):uni s p=zt3 s (p+2):=by
 unfold uni zt3;by_cases h:p+6<=s.size
 ·rw[if_pos ⟨h,h2,h3⟩,if_pos (by omega),zM5]
 ·rw[if_neg (fun hh=>h hh.1),if_neg (by omega)]
theorem hexAt_lt {s:ByteArray} {p n:Nat} (h:zt3 s p=some n):n<65536:=by
 unfold zt3 at h;split at h
 ·rw[zM5]at h;exact hex4_lt h
 ·cases h
def HexPost(o:Option Nat)(w:World)(e:Ending)(w':World):Prop:=e= .returned (.int .i64 (hexZ o))/\w=w'
def accBd(k acc:Nat):Prop:=k=0/\acc=0\/k=1/\acc<16\/k=2/\acc<256\/k=3/\acc<4096\/k=4/\acc<65536
theorem accBd_next {k acc d:Nat} (hk:k<4)(h:accBd k acc)(hd:d<16):accBd (k+1) (16*acc+d):=by unfold accBd at*;omega
theorem rhex_any(s:ByteArray)(p:Nat)(w:World)(hs:s.size<=1099511627776)(hp:p<=1099511627800):
 Calls Tryz.prog 157 #[.string s,.int .i64 (p:Int)] w (HexPost (zt3 s p) w):=by
 by_cases h4:p+4<=s.size
 ·have HM:Hq (zt3 s p=zQ0 s 4 p 0):=hq (by unfold zt3;rw[if_pos h4]);generalize zt3 s p=R at *;have h4': ¬(s.size:Int)-4<(p:Int):=by omega
  go_enter Tryz.func157,Tryz.ntmps157
  go_wp2_with fail
  go_loop [5,6] (fun n i=> ∃(k acc:Nat),k<=4/\n= .int .i64 (acc:Int)/\i= .int .i64 ((p:Int)+(k:Int))/\Hq (R=zQ0 s (4-k) (p+k) acc)/\Hq (accBd k acc)) (fun _ i=>(p+4-(intOf i).toNat))
  case atStart=>exact⟨0,0,by omega,rfl,zb5 (by omega),HM,hq (.inl ⟨rfl,rfl⟩)⟩
  case round=>
   obtain⟨k,acc,hk,rfl,rfl,hR,hbd⟩:=hrel;clear HM;have hacc:acc<=65535:=by have:=hbd.o;unfold accBd at this;omega
   by_cases hk4:k<4
   ·have y0:((s[p+k]'(by omega)).toNat:Int)=(byt s (p+k):Int):=by rw[zb6 s (p+k) (by omega)]
    have hz:((p:Int)+(k:Int)).toNat=p+k:=by omega
    obtain⟨j,hj⟩: ∃j,4-k=j+1:=⟨3-k,by omega⟩;have HR2:Hq (R=match hexv (byt s (p+k)) with|none=>none|some d=>zQ0 s j (p+k+1) (16*acc+d)):=hq (by
     rw[hR.o,hj,zQ0])
    have HJ:Hq (j=4-(k+1)):=hq (by omega);have hb:=zd3 s (p+k);generalize byt s (p+k)=c at *;clear hR hj;have h1:(p:Int)+(k:Int)<(p:Int)+4:=by omega
    cases hv:hexv c with
    |none=>
     have HN:Hq (R=none):=hq (by rw[HR2.o,hv]);have hc:c<48\/(57<c/\c<65)\/(70<c/\c<97)\/102<c:=by
      unfold hexv at hv;split at hv
      ·cases hv
      ·split at hv
       ·cases hv
       ·split at hv
        ·cases hv
        ·omega
     clear hv HR2;rcases hc with a1|⟨a1,a2⟩|⟨a1,a2⟩|a1
     ·have g1: ¬48<=c:=by omega
      have g2: ¬97<=c:=by omega
      have g3: ¬65<=c:=by omega
      go_wp2_with fail
      go_ret
      exact⟨by rw[HN.o];rfl,rfl⟩
     ·have g1:48<=c:=by omega
      have g1': ¬c<=57:=by omega
      have g2: ¬97<=c:=by omega
      have g3: ¬65<=c:=by omega
      go_wp2_with fail
      go_ret
      exact⟨by rw[HN.o];rfl,rfl⟩
     ·have g1:48<=c:=by omega
      have g1': ¬c<=57:=by omega
      have g2: ¬97<=c:=by omega
      have g3:65<=c:=by omega
      have g3': ¬c<=70:=by omega
      go_wp2_with fail
      go_ret
      exact⟨by rw[HN.o];rfl,rfl⟩
     ·have g1:48<=c:=by omega
      have g1': ¬c<=57:=by omega
      have g2:97<=c:=by omega
      have g2': ¬c<=102:=by omega
      have g3:65<=c:=by omega
      have g3': ¬c<=70:=by omega
      go_wp2_with fail
      go_ret
      exact⟨by rw[HN.o];rfl,rfl⟩
    |some d=>
     have hd:=(zl9 hv).1;have HN:Hq (R=zQ0 s (4-(k+1)) (p+(k+1)) (16*acc+d)):=hq (by rw[HR2.o,hv,←HJ.o];rfl);have HB:=hq (accBd_next hk4 hbd.o hd);have hc:(48<=c/\c<=57/\d=c-48)\/(97<=c/\c<=102/\d=c-87)\/(65<=c/\c<=70/\d=c-55):=by
      unfold hexv at hv;split at hv
      ·injection hv with hv;omega
      ·split at hv
       ·injection hv with hv;omega
       ·split at hv
        ·injection hv with hv;omega
        ·cases hv
     clear hv HR2;rcases hc with ⟨a1,a2,a3⟩|⟨a1,a2,a3⟩|⟨a1,a2,a3⟩
     ·have A3:=hq a3;clear a3;go_wp2_with fail
      go_round
      case rel=>exact⟨k+1,16*acc+d,by omega,zb5 (by have:=A3.o;omega),zb5 (by omega),HN,HB⟩
      case measure=>simp[intOf];omega
     ·have A3:=hq a3;have g1': ¬c<=57:=by omega
      have g1:48<=c:=by omega
      clear a3;go_wp2_with fail
      go_round
      case rel=>exact⟨k+1,16*acc+d,by omega,zb5 (by have:=A3.o;omega),zb5 (by omega),HN,HB⟩
      case measure=>simp[intOf];omega
     ·have A3:=hq a3;have g1': ¬c<=57:=by omega
      have g1:48<=c:=by omega
      have g2: ¬97<=c:=by omega
      clear a3;go_wp2_with fail
      go_round
      case rel=>exact⟨k+1,16*acc+d,by omega,zb5 (by have:=A3.o;omega),zb5 (by omega),HN,HB⟩
      case measure=>simp[intOf];omega
   ·obtain rfl:k=4:=by omega
    have HN:Hq (R=some acc):=hq (by rw[hR.o];rfl);clear hR;have h1: ¬(p:Int)+4<(p:Int)+4:=by omega
    go_wp2_with fail
    go_ret
    exact⟨by rw[HN.o];rfl,rfl⟩
 ·have HM:Hq (zt3 s p=none):=hq (by unfold zt3;rw[if_neg h4]);generalize zt3 s p=R at *;have h4':(s.size:Int)-4<(p:Int):=by omega
  clear h4;go_enter Tryz.func157,Tryz.ntmps157
  go_wp2_with fail
  go_ret
  exact⟨by rw[HM.o];rfl,rfl⟩
theorem zF3(n:Int)(w:World)(h0:0<=n)(h1:n<=1114111):
 Calls Tryz.prog 158 #[.int .i64 n] w fun e w'=>e= .returned (.string (Utf8.encode n))/\w=w':=by
 go_enter Tryz.func158,Tryz.ntmps158
 go_wp2_with fail
 go_ret
 exact⟨rfl,rfl⟩
def RescPost(o:Option (Nat×Nat))(w:World)(e:Ending)(w':World):Prop:=(e= .returned (.tuple #[.string (st ((o.map fun x=>encB x.1).getD [])),.int .i64 (((o.getD (0,0)).2:Nat):Int)]))/\Below w.heap.size w w'
theorem RescPost.no {o:Option (Nat×Nat)} {w w':World} (h:o=none)(hw:Below w.heap.size w w'):RescPost o w (.returned (.tuple #[.string ⟨#[]⟩,.int .i64 0])) w':=by
 subst h;exact⟨rfl,hw⟩
theorem RescPost.mk {o:Option (Nat×Nat)} {r n:Nat} {t:ByteArray} {b:Int} {w w':World} (h:o=some (r,n))(ht:t=st (encB r))(hb:b=(n:Int))(hw:Below w.heap.size w w'):RescPost o w (.returned (.tuple #[.string t,.int .i64 b])) w':=by
 subst h;subst ht;subst hb;exact⟨rfl,hw⟩
theorem zC2 {B:Nat} {w w':World} (h:Below B w w')(k:Nat):Below B w (w'.drewN k):=below_drewN h k
abbrev escFrom:ByteArray:=⟨#[34,92,47,98,102,110,114,116]⟩
abbrev escTo:ByteArray:=⟨#[34,92,47,8,12,10,13,9]⟩
theorem esc_hit(s:ByteArray)(p k:Nat)(hk:k<8)(h2: ¬s.size<p+2)(h:byt s (p+1)=byt escFrom k): ∃r,escM s p=some (r,2)/\escTo.extract k (k+1)=st (encB r):=by
 unfold escM;rw[if_neg h2,h]
 match k,hk with
 |0,_=>exact⟨34,rfl,by decide+kernel⟩
 |1,_=>exact⟨92,rfl,by decide+kernel⟩
 |2,_=>exact⟨47,rfl,by decide+kernel⟩
 |3,_=>exact⟨8,rfl,by decide+kernel⟩
 |4,_=>exact⟨12,rfl,by decide+kernel⟩
 |5,_=>exact⟨10,rfl,by decide+kernel⟩
 |6,_=>exact⟨13,rfl,by decide+kernel⟩
 |7,_=>exact⟨9,rfl,by decide+kernel⟩
theorem esc_miss(s:ByteArray)(p:Nat)(h2: ¬s.size<p+2)(h: ∀k,k<8->byt s (p+1)≠byt escFrom k):escM s p=escU s p:=by
 unfold escM;have h0:byt s (p+1)≠34:=h 0 (by omega);have h1:byt s (p+1)≠92:=h 1 (by omega);have h3:byt s (p+1)≠47:=h 2 (by omega);have h4:byt s (p+1)≠98:=h 3 (by omega);have h5:byt s (p+1)≠102:=h 4 (by omega);have h6:byt s (p+1)≠110:=h 5 (by omega);have h7:byt s (p+1)≠114:=h 6 (by omega);have h8:byt s (p+1)≠116:=h 7 (by omega);rw[if_neg h2,if_neg (by omega),if_neg h4,if_neg h5,if_neg h6,if_neg h7,if_neg h8]
theorem rescape_any(s:ByteArray)(p:Nat)(w:World)(hs:s.size<=1099511627776)(hp:p<s.size)(h92:byt s p=92):
 Calls Tryz.prog 116 #[.string s,.int .i64 (p:Int)] w (RescPost (escM s p) w):=by
 by_cases h2:s.size<p+2
 ·have HN:Hq (escM s p=none):=hq (by unfold escM;rw[if_pos h2]);generalize escM s p=R at *;have h2':(s.size:Int)<=(p:Int)+1:=by omega
  clear h92 h2;go_enter Tryz.func116,Tryz.ntmps116
  go_wp2_with fail
  go_ret2
  exact RescPost.no HN.o (Below.refl _ _)
 ·have h2': ¬(s.size:Int)<=(p:Int)+1:=by omega
  have hp1:p+1<s.size:=by omega
  have y1:((s[p+1]'hp1).toNat:Int)=(byt s (p+1):Int):=by rw[zb6 s (p+1) hp1]
  have hz1:((p:Int)+1).toNat=p+1:=by omega
  have HIT:=hq (esc_hit s p);have HMI:=hq (esc_miss s p h2);have H92:=hq h92;have H2:=hq h2;clear h92 h2;go_enter Tryz.func116,Tryz.ntmps116
  go_wp2_with fail
  go_loopw [8] (fun i wr=> ∃k:Nat,k<=8/\i= .int .i64 (k:Int)/\Hq (∀j,j<k->byt s (p+1)≠byt escFrom j)/\Below w.heap.size w wr) (fun i _=>(8-(intOf i).toNat))
  case atStart=>exact⟨0,by omega,rfl,hq (fun j h=>by omega),Below.refl _ _⟩
  case round=>
   obtain⟨k,hk,rfl,hne,hb⟩:=hrel;by_cases hk8:k<8
   ·have hkF:k<escFrom.size:=hk8;have y2:((escFrom[k]'hkF).toNat:Int)=(byt escFrom k:Int):=by rw[zb6 escFrom k hkF]
    by_cases he:byt s (p+1)=byt escFrom k
    ·obtain ⟨r,hr1,hr2⟩:=HIT.o k hk8 H2.o he;have e1:((byt s (p+1):Int)==(byt escFrom k:Int))=true:=beq_iff_eq.2 (by omega);have HR1:=hq hr1;have HR2:=hq hr2;clear hr1 hr2 he HIT HMI;generalize byt s (p+1)=c at *;generalize byt escFrom k=d at *;go_wp2_with fail
     go_quiet (fail)
     have hzk:((k:Int)+1).toNat=k+1:=by omega
     go_wp2_with fail
     go_ret2
     exact RescPost.mk HR1.o HR2.o rfl (zC2 hb _)
    ·have e1:((byt s (p+1):Int)==(byt escFrom k:Int))=false:=beq_eq_false_iff_ne.2 (by omega);have HNE:Hq (∀j,j<k+1->byt s (p+1)≠byt escFrom j):=hq (fun j hj=>by
      by_cases h:j<k
      ·exact hne.o j h
      ·obtain rfl:j=k:=by omega
       exact he)
     clear he HIT HMI;generalize byt s (p+1)=c at *;generalize byt escFrom k=d at *;go_wp2_with fail
     go_quiet (fail)
     go_wp2_with fail
     go_roundw
     case rel=>exact⟨k+1,by omega,zb5 (by omega),HNE,zC2 hb _⟩
     case measure=>simp[intOf];omega
   ·obtain rfl:k=8:=by omega
    have HM:=hq (HMI.o hne.o);clear hne HIT HMI;have u1:escM s p=escU s p:=HM.o;generalize escM s p=R at *;clear HM;by_cases h117:byt s (p+1)=117
    ·have hu:=uni_hex s p hp1 H92.o h117;have e1:((byt s (p+1):Int) !=117)=false:=by rw[h117];rfl
     have HX:=hq (fun W=>rhex_any s (p+2) W hs (by omega));have HL:=hq (fun n=> @hexAt_lt s (p+2) n);have HU:Hq (R=match zt3 s (p+2) with
      |none=>none
      |some n=>if 56320<=n/\n<=57343 then none else if n<55296\/57343<n then some (n,6) else match uni s (p+6) with
       |none=>none
       |some m=>if m<56320\/57343<m then none else some (65536+(n-55296)*1024+(m-56320),12)):=hq (by
      rw[u1];unfold escU;rw[hu];cases zt3 s (p+2) with
      |none=>rfl
      |some n=>cases uni s (p+6)<;>rfl)
     have hz2:((p:Int)+2).toNat=p+2:=by omega
     have HC:Hq (∀W,Calls Tryz.prog 157 #[.string s,.int .i64 ((p:Int)+2)] W (HexPost (zt3 s (p+2)) W)):=hq (fun W=>HX.o W);clear u1 hu h117 HX hz2;generalize byt s (p+1)=c at *;go_wp2_with fail
     refine(HC.o _).mono ?_;rintro e w1 ⟨rfl,hw1⟩;obtain rfl:=hw1;clear HC;cases hx:zt3 s (p+2) with
     |none=>
      have HN:Hq (R=none):=hq (by rw[HU.o,hx]);clear HU HL hx;simp only[hexZ];go_wp2_with fail
      go_ret2
      exact RescPost.no HN.o hb
     |some n=>
      have hn:=HL.o n hx;have HU2:Hq (R=if 56320<=n/\n<=57343 then none else if n<55296\/57343<n then some (n,6) else match uni s (p+6) with
       |none=>none
       |some m=>if m<56320\/57343<m then none else some (65536+(n-55296)*1024+(m-56320),12)):=hq (by
       rw[HU.o,hx])
      clear HU HL hx;simp only[hexZ];by_cases a1:56320<=n
      ·by_cases a2:n<57344
       ·have HN:Hq (R=none):=hq (HU2.o.trans (if_pos ⟨a1,by omega⟩));clear HU2;go_wp2_with fail
        go_ret2
        exact RescPost.no HN.o hb
       ·have HN:Hq (R=some (n,6)):=hq (HU2.o.trans ((if_neg (by omega)).trans (if_pos (by omega))));have a3: ¬n<55296:=by omega
        have a4:57344<=n:=by omega
        clear HU2;go_wp2_with fail
        refine(zF3 _ _ (by omega) (by omega)).mono ?_;rintro e w1 ⟨rfl,hw1⟩;obtain rfl:=hw1;rw[zQ4 n (by omega)];go_wp2_with fail
        go_ret2
        exact RescPost.mk HN.o rfl rfl hb
      ·by_cases a2:n<55296
       ·have HN:Hq (R=some (n,6)):=hq (HU2.o.trans ((if_neg (by omega)).trans (if_pos (by omega))));clear HU2;go_wp2_with fail
        refine(zF3 _ _ (by omega) (by omega)).mono ?_;rintro e w1 ⟨rfl,hw1⟩;obtain rfl:=hw1;rw[zQ4 n (by omega)];go_wp2_with fail
        go_ret2
        exact RescPost.mk HN.o rfl rfl hb
       ·have a4: ¬57344<=n:=by omega
        have HU3:Hq (R=match uni s (p+6) with
         |none=>none
         |some m=>if m<56320\/57343<m then none else some (65536+(n-55296)*1024+(m-56320),12)):=hq (by
         rw[HU2.o,if_neg (by omega),if_neg (by omega)])
        clear HU2;by_cases h7:p+7<s.size
        ·have y6:((s[p+6]'(by omega)).toNat:Int)=(byt s (p+6):Int):=by rw[zb6 s (p+6) (by omega)]
         have y7:((s[p+7]'h7).toNat:Int)=(byt s (p+7):Int):=by rw[zb6 s (p+7) h7]
         have z6:((p:Int)+6).toNat=p+6:=by omega
         have z7:((p:Int)+7).toNat=p+7:=by omega
         have e7: ¬(s.size:Int)<=(p:Int)+7:=by omega
         have hu:=fun a b=>uni_hex s (p+6) (by omega) a b
         have HHX:=hq (fun W=>rhex_any s (p+8) W hs (by omega));have HHL:=hq (fun m=> @hexAt_lt s (p+8) m);have H6:Hq (byt s (p+6)≠92->R=none):=hq (fun h=>by
          rw[HU3.o];unfold uni;rw[if_neg (fun hh=>h hh.2.1)])
         have H7:Hq (byt s (p+7)≠117->R=none):=hq (fun h=>by
          rw[HU3.o];unfold uni;rw[if_neg (fun hh=>h hh.2.2)])
         have H8:Hq (byt s (p+6)=92->byt s (p+7)=117->R=match zt3 s (p+8) with
          |none=>none
          |some m=>if m<56320\/57343<m then none else some (65536+(n-55296)*1024+(m-56320),12)):=hq (fun g1 g2=>by
          rw[HU3.o,hu g1 g2])
         clear hu HU3;generalize byt s (p+6)=c6 at *;generalize byt s (p+7)=c7 at *;by_cases g6:c6=92
         ·have f6:((c6:Int) !=92)=false:=by rw[g6];rfl
          by_cases g7:c7=117
          ·have f7:((c7:Int) !=117)=false:=by rw[g7];rfl
           have H9:=hq (H8.o g6 g7);clear H6 H7 H8 g6 g7;go_wp2_with fail
           refine(HHX.o _).mono ?_;rintro e w1 ⟨rfl,hw1⟩;obtain rfl:=hw1;clear HHX;cases hx:zt3 s (p+8) with
           |none=>
            have HN:Hq (R=none):=hq (by rw[H9.o,hx]);clear H9 HHL hx;simp only[hexZ];go_wp2_with fail
            go_ret2
            exact RescPost.no HN.o hb
           |some m=>
            have hm:=HHL.o m hx;have HN:Hq (R=if m<56320\/57343<m then none else some (65536+(n-55296)*1024+(m-56320),12)):=hq (by rw[H9.o,hx]);clear H9 HHL hx;simp only[hexZ];by_cases b1:m<56320
            ·have HN2:Hq (R=none):=hq (HN.o.trans (if_pos (.inl b1)));clear HN;go_wp2_with fail
             go_ret2
             exact RescPost.no HN2.o hb
            ·by_cases b2:57344<=m
             ·have HN2:Hq (R=none):=hq (HN.o.trans (if_pos (.inr (by omega))));clear HN;go_wp2_with fail
              go_ret2
              exact RescPost.no HN2.o hb
             ·have HN2:Hq (R=some (65536+(n-55296)*1024+(m-56320),12)):=hq (HN.o.trans (if_neg (by omega)));clear HN;have hU:=fun W=>zF3 (65536+1024*((n:Int)-55296)+(m:Int)-56320) W (by omega) (by omega)
              have hE:=zQ4 (65536+(n-55296)*1024+(m-56320)) (by omega);rw[show ((65536+(n-55296)*1024+(m-56320):Nat):Int)=65536+1024*((n:Int)-55296)+(m:Int)-56320 by omega]at hE;rw[hE]at hU;clear hE;have q1:(55296:Int)<=(n:Int):=by omega
              have q2:(n:Int)<56320:=by omega
              have q3:(56320:Int)<=(m:Int):=by omega
              have q4:(m:Int)<57344:=by omega
              clear a1 a2 a4 b1 b2 hn hm;have HN3:Hq (R=some (65536+(n-55296)*1024+(m-56320),12)):=HN2;obtain⟨T,HT⟩: ∃T,Hq (T=st (encB (65536+(n-55296)*1024+(m-56320)))):=⟨_,hq rfl⟩;rw[←HT.o]at hU;clear HN2;generalize (n:Int)=z at *;generalize (m:Int)=y at *;have HUT:=hq hU;clear hU;go_wp2_with fail
              with_reducible refine(HUT.o _).mono ?_
              rintro e w1 ⟨rfl,hw1⟩;obtain rfl:=hw1;go_wp2_with fail
              go_ret2
              exact RescPost.mk HN3.o HT.o rfl hb
          ·have f7:((c7:Int) !=117)=true:=bne_iff_ne.2 (by omega);have HN:=hq (H7.o g7);clear H6 H7 H8 g6 g7;go_wp2_with fail
           go_ret2
           exact RescPost.no HN.o hb
         ·have f6:((c6:Int) !=92)=true:=bne_iff_ne.2 (by omega);have HN:=hq (H6.o g6);clear H6 H7 H8 g6;go_wp2_with fail
          go_ret2
          exact RescPost.no HN.o hb
        ·have HN:Hq (R=none):=hq (by rw[HU3.o];unfold uni;rw[if_neg (by omega)]);have e7:(s.size:Int)<=(p:Int)+7:=by omega
         clear HU3;go_wp2_with fail
         go_ret2
         exact RescPost.no HN.o hb
    ·have hu:uni s p=none:=by unfold uni;rw[if_neg (fun h=>h117 h.2.2)]
     have HN:Hq (R=none):=hq (by rw[u1];unfold escU;rw[hu]);have e1:((byt s (p+1):Int) !=117)=true:=bne_iff_ne.2 (by omega);clear u1 hu h117;generalize byt s (p+1)=c at *;go_wp2_with fail
     go_ret2
     exact RescPost.no HN.o hb
def zi7(x:Nat×Int×List Nat):Bs×Nat×Int:=if x.2.1=0 then(zd x.2.2,x.1,0) else([],x.1,x.2.1)
theorem rread_any(s:ByteArray)(a:Nat)(w:World)(hs:s.size<=1099511627776)(ha:a<=s.size):
 Calls Tryz.prog 72 #[.string s,.int .i64 (a:Int)] w (zt8 (zi7 (zb7 s a)) w):=by
 by_cases hq0:a<s.size/\byt s a=34
 ·have HM:Hq (zi7 (zb7 s a)=zi7 (zc5 s s.size (a+1) [])):=hq (by unfold zb7;rw[if_pos hq0]);obtain⟨hlt,h34⟩:=hq0;have y0:((s[a]'hlt).toNat:Int)=(byt s a:Int):=by rw[zb6 s a hlt]
  have e1:((byt s a:Int) !=34)=false:=by rw[h34];rfl
  have ea:decide (s.size<=a)=false:=decide_eq_false (by omega);generalize zi7 (zb7 s a)=R at *;generalize byt s a=c at *;clear h34;go_enter Tryz.func72,Tryz.ntmps72
  go_wp2_with fail
  clear y0 e1
  go_loopw [7,8] (fun o i wr=> ∃(k f:Nat) (acc:List Nat),k<=s.size/\o= .string (st (zd acc))/\i= .int .i64 (k:Int)/\Hq (R=zi7 (zc5 s f k acc))/\s.size<=k+f/\(zd acc).length<=4*k/\Below w.heap.size w wr) (fun _ i _=>(s.size-(intOf i).toNat))
  case atStart=>exact⟨a+1,s.size,[],by omega,rfl,zb5 (by omega),HM,by omega,Nat.zero_le _,Below.refl _ _⟩
  case round=>
   obtain⟨k,f,acc,hk,rfl,rfl,hR,hf,hln,hb⟩:=hrel;clear HM;have hsz:(st (zd acc)).size<=4*k:=by rw[za8];exact hln
   by_cases hkl:k<s.size
   ·have y0:((s[k]'hkl).toNat:Int)=(byt s k:Int):=by rw[zb6 s k hkl]
    obtain⟨f,rfl⟩: ∃g,f=g+1:=⟨f-1,by omega⟩;have HR2:Hq (R=zi7 (if byt s k=34 then(k+1,0,acc) else match zf2 s k with|none=>(k,2,acc)|some x=>zc5 s f (k+x.2) (acc++[x.1]))):=hq (by
     rw[hR.o,zc5,if_pos hkl];by_cases h34:byt s k=34
     ·rw[if_pos h34,if_pos h34]
     ·rw[if_neg h34,if_neg h34];cases zf2 s k<;>rfl)
    clear hR;by_cases h34:byt s k=34
    ·have e34:((byt s k:Int)==34)=true:=by rw[h34];rfl
     have HN:Hq (R=(zd acc,k+1,0)):=hq (by rw[HR2.o,if_pos h34];rfl);clear HR2 h34;generalize byt s k=c at *;go_wp2_with fail
     go_ret3
     exact⟨by rw[HN.o];rfl,hb⟩
    ·have e34:((byt s k:Int)==34)=false:=beq_eq_false_iff_ne.2 (by omega);have HR3:Hq (R=zi7 (match zf2 s k with|none=>(k,2,acc)|some x=>zc5 s f (k+x.2) (acc++[x.1]))):=hq (by
      rw[HR2.o,if_neg h34])
     clear HR2 h34;have HPB:=hq (fun r n=> @zn3 s k r n hkl);by_cases h92:byt s k=92
     ·have e92:((byt s k:Int)==92)=true:=by rw[h92];rfl
      have HE:=hq (fun W=>rescape_any s k W hs hkl h92);have hpm:zf2 s k=escM s k:=by unfold zf2;rw[if_pos h92]
      rw[hpm]at HR3 HPB;generalize escM s k=o at *;clear h92 hpm;generalize byt s k=c at *;go_wp2_with fail
      refine(HE.o _).mono ?_;clear HE;cases o with
      |none=>
       rintro e w2 ⟨rfl,hb2⟩;have HN:Hq (R=([],k,2)):=hq HR3.o;have hb3:=za hb hb2;clear HR3 HPB hb2;simp only[Option.map_none,Option.getD_none];go_wp2_with fail
       go_ret3
       exact⟨by rw[HN.o];rfl,hb3⟩
      |some x=>
       obtain⟨r,n⟩:=x;rintro e w2 ⟨rfl,hb2⟩;obtain⟨p1,p2,p3,p4,_⟩:=HPB.o r n rfl;have HN:Hq (R=zi7 (zc5 s f (k+n) (acc++[r]))):=hq HR3.o;have hb3:=za hb hb2;have hl:=zD7 r;have hsz2:(st (encB r)).size<=4:=by rw[za8];exact hl
       have hn0:((n:Int)==0)=false:=beq_eq_false_iff_ne.2 (by omega);have HS:=hq (show st (zd acc)++st (encB r)=st (zd (acc++[r])) by rw[zq9,zm]);have hln2:(zd (acc++[r])).length<=4*(k+n):=by rw[zm,List.length_append];omega
       clear HR3 HPB hb2;simp only[Option.map_some,Option.getD_some];go_wp2_with fail
       go_roundw
       case rel=>exact⟨k+n,f,acc++[r],p4,congrArg Value.string HS.o,zb5 (by omega),HN,by omega,hln2,hb3⟩
       case measure=>simp[intOf];omega
     ·have e92:((byt s k:Int)==92)=false:=beq_eq_false_iff_ne.2 (by omega);have hpm:zf2 s k=if byt s k<32 then none else if bad s k then none else some (Utf8.decode s k):=by unfold zf2;rw[if_neg h92]
      have HG:=hq (fun W=>zG0 s k W (by unfold maxLen;omega) hkl);have HX:=hq (fun W=>zy0 s (k:Int) W (by unfold maxLen;omega) (by omega));have hnt:nxt s k=(((Utf8.decode s k).1:Int),((Utf8.decode s k).2:Int)):=nxt_in s k hkl;rw[hnt]at HX;have hwl:=zp8 s k hkl;have hwp:=zi4 s k;unfold wd at hwl hwp;have HENC:Hq (¬bad s k->s.extract k (k+(Utf8.decode s k).2)=st (encB (Utf8.decode s k).1)):=hq (fun h=>by
       rw[←enc_dec s k hkl h];exact zQ4 _ (zv0 s k h))
      rw[hpm]at HR3;clear HPB hnt hpm h92;by_cases hbad:bad s k
      ·have HN:Hq (R=([],k,2)):=hq (by
        rw[HR3.o];by_cases h32:byt s k<32
        ·rw[if_pos h32];rfl
        ·rw[if_neg h32,if_pos hbad];rfl)
       have hd:decide (¬bad s k)=false:=decide_eq_false (fun h=>h hbad);rw[hd]at HG;clear HR3 HENC hbad hd HX;generalize byt s k=c at *;go_wp2_with fail
       refine(HG.o _).mono ?_;rintro e w2 ⟨rfl,hw2⟩;obtain rfl:=hw2;clear HG;by_cases h32:c<32
       ·go_wp2_with fail
        go_ret3
        exact⟨by rw[HN.o];rfl,hb⟩
       ·go_wp2_with fail
        go_ret3
        exact⟨by rw[HN.o];rfl,hb⟩
      ·have hd:decide (¬bad s k)=true:=decide_eq_true hbad;rw[hd]at HG;by_cases h32:byt s k<32
       ·have HN:Hq (R=([],k,2)):=hq (by rw[HR3.o,if_pos h32];rfl);clear HR3 HENC hbad hd HX;generalize byt s k=c at *;go_wp2_with fail
        refine(HG.o _).mono ?_;rintro e w2 ⟨rfl,hw2⟩;obtain rfl:=hw2;clear HG;go_wp2_with fail
        go_ret3
        exact⟨by rw[HN.o];rfl,hb⟩
       ·have HN:Hq (R=zi7 (zc5 s f (k+(Utf8.decode s k).2) (acc++[(Utf8.decode s k).1]))):=hq (by rw[HR3.o,if_neg h32,if_neg hbad]);have HE2:=hq (HENC.o hbad);clear HR3 HENC hbad hd;generalize byt s k=c at *;generalize (Utf8.decode s k).1=C at *;generalize (Utf8.decode s k).2=K at *;have hl:=zD7 C;have hsz2:(s.extract k (k+K)).size<=4:=by rw[HE2.o,za8];exact hl
        have HS:=hq (show st (zd acc)++s.extract k (k+K)=st (zd (acc++[C])) by rw[HE2.o,zq9,zm]);have hln2:(zd (acc++[C])).length<=4*(k+K):=by rw[zm,List.length_append];omega
        go_wp2_with fail
        refine(HG.o _).mono ?_;rintro e w2 ⟨rfl,hw2⟩;obtain rfl:=hw2;clear HG HE2;go_wp2_with fail
        refine(HX.o _).mono ?_;rintro e w2 ⟨rfl,hw2⟩;obtain rfl:=hw2;clear HX;have hzk:((k:Int)+(K:Int)).toNat=k+K:=by omega
        go_wp2_with fail
        go_roundw
        case rel=>exact⟨k+K,f,acc++[C],hwl,congrArg Value.string HS.o,zb5 (by omega),HN,by omega,hln2,hb⟩
        case measure=>simp[intOf];omega
   ·obtain rfl:k=s.size:=by omega
    have HN:Hq (R=([],s.size,2)):=hq (by
     rw[hR.o];cases f with
     |zero=>rfl
     |succ f=>rw[zc5,if_neg (Nat.lt_irrefl _)];rfl)
    clear hR;go_wp2_with fail
    go_ret3
    exact⟨by rw[HN.o];rfl,hb⟩
 ·have HM:Hq (zi7 (zb7 s a)=([],a,2)):=hq (by unfold zb7;rw[if_neg hq0];rfl);generalize zi7 (zb7 s a)=R at *;by_cases hlt:a<s.size
  ·have y0:((s[a]'hlt).toNat:Int)=(byt s a:Int):=by rw[zb6 s a hlt]
   have e1:((byt s a:Int) !=34)=true:=bne_iff_ne.2 (fun h=>hq0 ⟨hlt,by omega⟩);generalize byt s a=c at *;clear hq0;go_enter Tryz.func72,Tryz.ntmps72
   go_wp2_with fail
   go_ret3
   exact⟨by rw[HM.o];rfl,Below.refl _ _⟩
  ·obtain rfl:a=s.size:=by omega
   clear hq0;go_enter Tryz.func72,Tryz.ntmps72
   go_wp2_with fail
   go_ret3
   exact⟨by rw[HM.o];rfl,Below.refl _ _⟩
theorem rend_any(s:ByteArray)(a:Int)(w:World)(hs:s.size<=1099511627776)(ha:-9223372036854775808<=a/\a<=9223372036854775807):
 Calls Tryz.prog 197 #[.string s,.int .i64 a] w (zR2 (endM s a) w):=by
 obtain⟨ha1,ha2⟩:=ha;by_cases h0:a<0
 ·have HN:Hq (endM s a=(0,2)):=hq (by unfold endM;rw[if_pos (.inl h0)]);generalize endM s a=R at *;go_enter Tryz.func197,Tryz.ntmps197
  go_wp2_with fail
  go_ret2
  exact⟨by rw[HN.o];rfl,Below.refl _ _⟩
 ·by_cases h1:(s.size:Int)<a
  ·have HN:Hq (endM s a=(0,2)):=hq (by unfold endM;rw[if_pos (.inr h1)]);generalize endM s a=R at *;go_enter Tryz.func197,Tryz.ntmps197
   go_wp2_with fail
   go_ret2
   exact⟨by rw[HN.o];rfl,Below.refl _ _⟩
  ·obtain ⟨k,rfl⟩:=Int.eq_ofNat_of_zero_le (Int.not_lt.1 h0);have HN:Hq (endM s k=((zi7 (zb7 s k)).2.1,(zi7 (zb7 s k)).2.2)):=hq (by
    unfold endM zi7;rw[if_neg (by omega)];rw[show ((k:Int)).toNat=k by omega];by_cases h:(zb7 s k).2.1=0
    ·rw[if_pos h];simp only[h]
    ·rw[if_neg h])
   have hks:k<=s.size:=by omega
   have HSC:=hq (rread_any s k w hs hks);generalize endM s k=R at *;generalize zi7 (zb7 s k)=x at *;obtain⟨x1,x2,x3⟩:=x;clear h0 h1;have h0: ¬(k:Int)<0:=by omega
   have h1:(k:Int)<=(s.size:Int):=by omega
   go_enter Tryz.func197,Tryz.ntmps197
   go_wp2_with fail
   refine HSC.o.mono ?_;rintro e w1 ⟨rfl,hb1⟩;clear HSC;go_wp2_with fail
   go_ret2
   exact⟨by rw[HN.o];rfl,hb1⟩
theorem zp(s:ByteArray)(w:World)(hs:s.size<=1099511627776):
 Calls Tryz.prog 33 #[.string s] w (zt8 (zb4 s) w):=by
 have HC:=hq (rread_any s 0 w hs (Nat.zero_le _));have HC':Hq (Calls Tryz.prog 72 #[.string s,.int .i64 0] w (zt8 (zi7 (zb7 s 0)) w)):=hq HC.o;have hbd:(zb7 s 0).1<=s.size:=by
  unfold zb7;split
  ·exact (zF1 s _ _ [] (fun x hx=>by cases hx)).2
  ·exact Nat.zero_le _
 have HU:Hq (zb4 s=if (zi7 (zb7 s 0)).2.2=0 then(if (zi7 (zb7 s 0)).2.1<s.size then([],(zi7 (zb7 s 0)).2.1,2) else zi7 (zb7 s 0)) else zi7 (zb7 s 0)):=hq (by
  unfold zb4 zi7;generalize zb7 s 0=x at *;by_cases h:x.2.1=0
  ·rw[if_pos h];simp only;rw[if_neg (fun hh=>hh h),if_pos trivial];by_cases h2:x.1<s.size
   ·rw[if_pos h2,if_pos (by omega)]
   ·rw[if_neg h2,if_neg (by omega)]
  ·rw[if_neg h];simp only;rw[if_pos h,if_neg h])
 clear HC;generalize zb4 s=U at *;generalize zi7 (zb7 s 0)=x at *;obtain⟨x1,x2,x3⟩:=x;clear hbd;go_enter Tryz.func33,Tryz.ntmps33
 go_wp2_with fail
 refine HC'.o.mono ?_;rintro e w2 ⟨rfl,hb⟩;clear HC';by_cases h:x3=0
 ·have e1:(x3==0)=true:=by rw[h];rfl
  by_cases h2:x2<s.size
  ·have HN:=hq (HU.o.trans ((if_pos h).trans (if_pos h2)));clear HU h;go_wp2_with fail
   go_ret3
   exact⟨by rw[HN.o];rfl,hb⟩
  ·have HN:=hq (HU.o.trans ((if_pos h).trans (if_neg h2)));clear HU h;go_wp2_with fail
   go_ret3
   exact⟨by rw[HN.o];rfl,hb⟩
 ·have e1:(x3==0)=false:=beq_eq_false_iff_ne.2 h;have HN:=hq (HU.o.trans (if_neg h));clear HU h;go_wp2_with fail
  go_ret3
  exact⟨by rw[HN.o];rfl,hb⟩
def inSet(l:ByteArray)(c:Nat):Nat->Bool
 |0=>false
 |k+1=>inSet l c k||(byt l k==c)
def zR1(S:ByteArray)(q:Nat->Bool):Prop:= ∀c:Nat,c<256->inSet S c S.size=q c
theorem inBlank:zR1 zu2 zf1:=by unfold zR1;decide+kernel
theorem inNum:zR1 setNum zj2:=by unfold zR1;decide+kernel
theorem inLet:zR1 setLet zi2:=by unfold zR1;decide+kernel
abbrev setHead:ByteArray:=⟨#[45,48,49,50,51,52,53,54,55,56,57]⟩
def isHead(c:Nat):Bool:=c==45||(decide (48<=c)&&decide (c<=57))
theorem inHead:zR1 setHead isHead:=by unfold zR1;decide+kernel
theorem zM4(l:ByteArray)(c:Nat): ∀(n k:Nat),k<n->byt l k=c->inSet l c n=true
 |0,k,h,_=>absurd h (Nat.not_lt_zero _)
 |n+1,k,h,hb=>by
  unfold inSet;by_cases hk:k=n
  ·subst hk;simp[hb]
  ·rw[zM4 l c n k (by omega) hb];rfl
theorem zI6(S:ByteArray)(c:Nat)(w:World)(hS:S.size<=1000)(_:c<256):
 Calls Tryz.prog 195 #[.int .u8 (c:Int),.string S] w fun e w'=>e= .returned (.bool (inSet S c S.size))/\w=w':=by
 have HM:=hq (fun k h1 h2=>zM4 S c S.size k h1 h2);go_enter Tryz.func195,Tryz.ntmps195
 go_wp2_with fail
 go_loop [5] (fun i=> ∃k:Nat,k<=S.size/\i= .int .i64 (k:Int)/\Hq (inSet S c k=false)) (fun i=>S.size-(intOf i).toNat)
 case atStart=>exact⟨0,Nat.zero_le _,rfl,hq rfl⟩
 case round=>
  obtain⟨k,hk,rfl,hin⟩:=hrel;by_cases hks:k<S.size
  ·have y0:((S[k]'hks).toNat:Int)=(byt S k:Int):=by rw[zb6 S k hks]
   by_cases he:byt S k=c
   ·have HN:=hq (HM.o k hks he);have e1:((byt S k:Int)==(c:Int))=true:=by rw[he];exact beq_self_eq_true _
    clear he HM hin;generalize byt S k=d at *;go_wp2_with fail
    go_ret
    exact⟨by rw[HN.o];rfl,rfl⟩
   ·have e1:((byt S k:Int)==(c:Int))=false:=beq_eq_false_iff_ne.2 (by omega);have HN:Hq (inSet S c (k+1)=false):=hq (by show(inSet S c k||(byt S k==c))=false;rw[hin.o,Bool.false_or];exact beq_eq_false_iff_ne.2 he);clear he HM hin;generalize byt S k=d at *;go_wp2_with fail
    go_round
    case rel=>exact⟨k+1,by omega,zb5 (by omega),HN⟩
    case measure=>simp[intOf];omega
  ·obtain rfl:k=S.size:=by omega
   clear HM;go_wp2_with fail
   go_ret
   exact⟨by rw[hin.o];rfl,rfl⟩
theorem zF4(S:ByteArray)(q:Nat->Bool)(hS:zR1 S q)(hSz:S.size<=1000)(s:ByteArray)(p:Nat)(w:World)(hs:s.size<=1099511627776)(hp:p<=s.size):
 Calls Tryz.prog 196 #[.string s,.int .i64 (p:Int),.string S] w fun e w'=>e= .returned (.int .i64 (zc6 s q p:Int))/\w=w':=by
 have HI:=hq (fun c (hc:c<256) W=>by have:=zI6 S c W hSz hc;rw[hS c hc]at this;exact this);have HS:=hq (fun k h1 h2=> @zu3 s q k h1 h2);have HO:=hq (fun k h1=> @zK9 s q k h1);have HE:=hq (fun k h1=> @runTo_end s q k h1);generalize hR:zc6 s q p=R;have HR:=hq hR;clear hR hS;go_enter Tryz.func196,Tryz.ntmps196
 go_wp2_with fail
 go_loop [1] (fun i=> ∃k:Nat,k<=s.size/\i= .int .i64 (k:Int)/\Hq (zc6 s q k=R)) (fun i=>s.size-(intOf i).toNat)
 case atStart=>exact⟨p,hp,rfl,HR⟩
 case round=>
  obtain⟨k,hk,rfl,hr⟩:=hrel;clear HR;by_cases hks:k<s.size
  ·have y0:((s[k]'hks).toNat:Int)=(byt s k:Int):=by rw[zb6 s k hks]
   have HC:=hq (HI.o (byt s k) (zd3 s k));have HS2:=hq (HS.o k hks);have HO2:=hq (HO.o k);clear HS HO HE HI;generalize byt s k=c at *;cases hqc:q c with
   |true=>
    rw[hqc]at HC;have HN:Hq (zc6 s q (k+1)=R):=hq (by rw[←HS2.o hqc];exact hr.o);clear hqc HS2 HO2 hr;go_wp2_with fail
    refine(HC.o _).mono ?_;rintro e w' ⟨rfl,hw⟩;obtain rfl:=hw;go_wp2_with fail
    go_round
    case rel=>exact⟨k+1,by omega,zb5 (by omega),HN⟩
    case measure=>simp[intOf];omega
   |false=>
    rw[hqc]at HC;have HN:Hq (k=R):=hq (by rw[←HO2.o hqc];exact hr.o);clear hqc HS2 HO2 hr;go_wp2_with fail
    refine(HC.o _).mono ?_;rintro e w' ⟨rfl,hw⟩;obtain rfl:=hw;go_wp2_with fail
    go_ret
    exact⟨by rw[←HN.o];rfl,rfl⟩
  ·obtain rfl:k=s.size:=by omega
   have HN:Hq (s.size=R):=hq (by rw[←HE.o s.size (Nat.le_refl _)];exact hr.o);clear HI HS HO HE hr;go_wp2_with fail
   go_ret
   exact⟨by rw[←HN.o];rfl,rfl⟩
def Row(w:World)(v:Value)(l:List Tok):Prop:= ∃B,w.ownsRow B 131 3 v l.length (zd7 l)
abbrev signsS:ByteArray:=⟨#[123,125,91,93,44,58]⟩
theorem sign_hit {k c:Nat} (hk:k<6)(h:c=byt signsS k):zn8 c=2+k:=by
 subst h
 match k,hk with
 |0,_=>rfl
 |1,_=>rfl
 |2,_=>rfl
 |3,_=>rfl
 |4,_=>rfl
 |5,_=>rfl
theorem sign_miss {c:Nat} (h: ∀k,k<6->c≠byt signsS k):zn8 c=0:=by
 have h0:c≠123:=h 0 (by omega);have h1:c≠125:=h 1 (by omega);have h2:c≠91:=h 2 (by omega);have h3:c≠93:=h 3 (by omega);have h4:c≠44:=h 4 (by omega);have h5:c≠58:=h 5 (by omega);unfold zn8;rw[if_neg h0,if_neg h1,if_neg h2,if_neg h3,if_neg h4,if_neg h5]
theorem isHead_iff(c:Nat):(c=45\/48<=c/\c<=57)↔isHead c=true:=by
 unfold isHead;simp only[Bool.or_eq_true,Bool.and_eq_true,beq_iff_eq,decide_eq_true_eq]
theorem rone4_any(s:ByteArray)(p:Nat)(w:World)(hs:s.size<=1099511627776)(hp:p<s.size):
 Calls Tryz.prog 159 #[.string s,.int .i64 (p:Int)] w (OnePost (oneM s p) w):=by
 have y0:((s[p]'hp).toNat:Int)=(byt s p:Int):=by rw[zb6 s p hp]
 have hcb:=zd3 s p;have hone:oneM s p=if zn8 (byt s p)≠0 then(zn8 (byt s p),p+1,0)
  else if zf1 (byt s p)=true then(1,zc6 s zf1 p,0)
  else if byt s p=34 then(8,(zb7 s p).1,(zb7 s p).2.1)
  else if byt s p=45\/48<=byt s p/\byt s p<=57 then
   (if (zb3 (sub s p (zc6 s zj2 p))).2≠0 then(0,p,(zb3 (sub s p (zc6 s zj2 p))).2) else(9,zc6 s zj2 p,0))
  else if zp4 (sub s p (zc6 s zi2 p))≠0 then(zp4 (sub s p (zc6 s zi2 p)),zc6 s zi2 p,0) else(0,p,2):=rfl
 have HONE:=hq hone;have HHD:=hq (isHead_iff (byt s p));have HHIT:=hq (fun k hk h=> @sign_hit k (byt s p) hk h);have HMISS:=hq (@sign_miss (byt s p));have HBI:=hq (fun W=>by have:=zI6 zu2 (byt s p) W (by decide) hcb;rw[inBlank _ hcb]at this;exact this);have HHI:=hq (fun W=>by have:=zI6 setHead (byt s p) W (by decide) hcb;rw[inHead _ hcb]at this;exact this);have HRB:=hq (fun W=>zF4 zu2 zf1 inBlank (by decide) s p W hs (by omega));have HRN:=hq (fun W=>zF4 setNum zj2 inNum (by decide) s p W hs (by omega));have HRL:=hq (fun W=>zF4 setLet zi2 inLet (by decide) s p W hs (by omega));have HEND:=hq (fun W=>rend_any s (p:Int) W hs (by omega));have hendM:endM s (p:Int)=((zb7 s p).1,(zb7 s p).2.1):=by unfold endM;rw[if_neg (by omega)];rfl
 rw[hendM]at HEND;have hnl:=zr3 s zj2 p (by omega);have hng:=zp0 s zj2 p;have hll:=zr3 s zi2 p (by omega);have hlg:=zp0 s zi2 p;have HPA:=hq (fun W=>zA1 (sub s p (zc6 s zj2 p)) W (by rw[sub_len _ _ _ hnl];omega));have hst:st (sub s p (zc6 s zj2 p))=s.extract p (zc6 s zj2 p):=st_of _;rw[hst]at HPA;have k1:=zj5 (s.extract p (zc6 s zi2 p)) [116,114,117,101];have k2:=zj5 (s.extract p (zc6 s zi2 p)) [102,97,108,115,101];have k3:=zj5 (s.extract p (zc6 s zi2 p)) [110,117,108,108];have HWO:Hq (zp4 (sub s p (zc6 s zi2 p))=if (s.extract p (zc6 s zi2 p)).data.toList=[116,114,117,101] then 10 else if (s.extract p (zc6 s zi2 p)).data.toList=[102,97,108,115,101] then 11 else if (s.extract p (zc6 s zi2 p)).data.toList=[110,117,108,108] then 12 else 0):=hq rfl;clear hone hendM hst;generalize oneM s p=R at *;generalize zb3 (sub s p (zc6 s zj2 p))=PA at *;generalize zp4 (sub s p (zc6 s zi2 p))=WO at *;generalize zc6 s zj2 p=RN at *;generalize zc6 s zi2 p=RL at *;generalize zc6 s zf1 p=RB at *;generalize zb7 s p=SC at *;generalize hB:zf1 (byt s p)=BL at *;generalize hH:isHead (byt s p)=HD at *;clear hB hH;generalize hG:zn8 (byt s p)=SG at *;clear hG;generalize byt s p=c at *;have K1:=hq k1;have K2:=hq k2;have K3:=hq k3;clear k1 k2 k3;go_enter Tryz.func159,Tryz.ntmps159
 go_wp2_with fail
 go_loop [9] (fun i=> ∃k:Nat,k<=6/\i= .int .i64 (k:Int)/\Hq (∀j,j<k->c≠byt signsS j)) (fun i=>6-(intOf i).toNat)
 case atStart=>exact⟨0,by omega,rfl,hq (fun j h=>by omega)⟩
 case round=>
  obtain⟨k,hk,rfl,hne⟩:=hrel;by_cases hk6:k<6
  ·have hkF:k<signsS.size:=hk6;have y2:((signsS[k]'hkF).toNat:Int)=(byt signsS k:Int):=by rw[zb6 signsS k hkF]
   by_cases he:c=byt signsS k
   ·have hsg:=HHIT.o k hk6 he;have e1:((c:Int)==(byt signsS k:Int))=true:=beq_iff_eq.2 (by omega);have HN:=hq (HONE.o.trans (if_pos (by omega)));have HSG:=hq hsg;clear he hsg HHIT HMISS HONE HBI HHI HRB HRN HRL HEND HPA HWO K1 K2 K3 hne HHD;generalize byt signsS k=d at *;go_wp2_with fail
    go_ret3
    exact OnePost.mk HN.o (by have:=HSG.o;omega) (by omega) rfl (Below.refl _ _)
   ·have e1:((c:Int)==(byt signsS k:Int))=false:=beq_eq_false_iff_ne.2 (by omega);have HNE:Hq (∀j,j<k+1->c≠byt signsS j):=hq (fun j hj=>by
     by_cases h:j<k
     ·exact hne.o j h
     ·obtain rfl:j=k:=by omega
      exact he)
    clear he HHIT HMISS HONE HBI HHI HRB HRN HRL HEND HPA HWO K1 K2 K3 hne HHD;generalize byt signsS k=d at *;go_wp2_with fail
    go_round
    case rel=>exact⟨k+1,by omega,zb5 (by omega),HNE⟩
    case measure=>simp[intOf];omega
  ·obtain rfl:k=6:=by omega
   have hsg:=HMISS.o hne.o;have HO2:=hq (HONE.o.trans (if_neg (fun h=>h hsg)));clear hne HONE HHIT HMISS hsg;cases BL with
   |true=>
    have HN:=hq (HO2.o.trans (if_pos rfl));clear HO2 HHI HRN HRL HEND HPA HWO K1 K2 K3 HHD;go_wp2_with fail
    refine(HBI.o _).mono ?_;rintro e w' ⟨rfl,hw⟩;obtain rfl:=hw;clear HBI;go_wp2_with fail
    refine(HRB.o _).mono ?_;rintro e w' ⟨rfl,hw⟩;obtain rfl:=hw;clear HRB;go_wp2_with fail
    go_ret3
    exact OnePost.mk HN.o rfl rfl rfl (Below.refl _ _)
   |false=>
    have HO3:=hq (HO2.o.trans (if_neg (by decide)));clear HO2 HRB;go_wp2_with fail
    refine(HBI.o _).mono ?_;rintro e w' ⟨rfl,hw⟩;obtain rfl:=hw;clear HBI;by_cases h3:c=34
    ·have HN:=hq (HO3.o.trans (if_pos h3));have e3:((c:Int)==34)=true:=by rw[h3];rfl
     clear HO3 h3 HHI HRN HRL HPA HWO K1 K2 K3 HHD;go_wp2_with fail
     refine(HEND.o _).mono ?_;rintro e w2 ⟨rfl,hb⟩;clear HEND;go_wp2_with fail
     go_ret3
     exact OnePost.mk HN.o rfl rfl rfl hb
    ·have HO4:=hq (HO3.o.trans (if_neg h3));have e3:((c:Int)==34)=false:=beq_eq_false_iff_ne.2 (by omega);clear HO3 h3 HEND;cases HD with
     |true=>
      have HO5:=hq (HO4.o.trans (if_pos (HHD.o.2 rfl)));obtain⟨⟨pn,pd,pe⟩,pr⟩:=PA;clear HO4 HRL HWO K1 K2 K3 HHD;go_wp2_with fail
      refine(HHI.o _).mono ?_;rintro e w' ⟨rfl,hw⟩;obtain rfl:=hw;clear HHI;go_wp2_with fail
      refine(HRN.o _).mono ?_;rintro e w' ⟨rfl,hw⟩;obtain rfl:=hw;clear HRN;go_wp2_with fail
      refine(HPA.o _).mono ?_;rintro e w2 ⟨rfl,hb⟩;clear HPA;simp only[Dec.val];by_cases hpr:pr=0
      ·have e5:(pr !=0)=false:=by rw[hpr];rfl
       have HN:=hq (HO5.o.trans (if_neg (fun h=>h hpr)));clear HO5 hpr;go_wp2_with fail
       go_ret3
       exact OnePost.mk HN.o rfl rfl rfl (hb.alloc (by have:=hb.size;omega) _)
      ·have e5:(pr !=0)=true:=bne_iff_ne.2 hpr;have HN:=hq (HO5.o.trans (if_pos hpr));clear HO5 hpr;go_wp2_with fail
       go_ret3
       exact OnePost.mk HN.o rfl rfl rfl (hb.alloc (by have:=hb.size;omega) _)
     |false=>
      have HO5:=hq (HO4.o.trans (if_neg (fun h=>by have:=HHD.o.1 h;cases this)));clear HO4 HRN HPA HHD;go_wp2_with fail
      refine(HHI.o _).mono ?_;rintro e w' ⟨rfl,hw⟩;obtain rfl:=hw;clear HHI;go_wp2_with fail
      refine(HRL.o _).mono ?_;rintro e w' ⟨rfl,hw⟩;obtain rfl:=hw;clear HRL;by_cases w1:(s.extract p RL).data.toList=[116,114,117,101]
      ·have j1:=K1.o.trans (decide_eq_true w1);have hwo:=HWO.o.trans (if_pos w1);have HN:=hq (HO5.o.trans (if_pos (by omega)));have HWO2:=hq hwo;clear HO5 HWO K1 K2 K3 w1 hwo;go_wp2_with fail
       go_ret3
       exact OnePost.mk HN.o (by rw[HWO2.o];rfl) rfl rfl (Below.refl _ _)
      ·have j1:=K1.o.trans (decide_eq_false w1);by_cases w2:(s.extract p RL).data.toList=[102,97,108,115,101]
       ·have j2:=K2.o.trans (decide_eq_true w2);have hwo:=HWO.o.trans ((if_neg w1).trans (if_pos w2));have HN:=hq (HO5.o.trans (if_pos (by omega)));have HWO2:=hq hwo;clear HO5 HWO K1 K2 K3 w1 w2 hwo;go_wp2_with fail
        go_ret3
        exact OnePost.mk HN.o (by rw[HWO2.o];rfl) rfl rfl (Below.refl _ _)
       ·have j2:=K2.o.trans (decide_eq_false w2);by_cases w3:(s.extract p RL).data.toList=[110,117,108,108]
        ·have j3:=K3.o.trans (decide_eq_true w3);have hwo:=HWO.o.trans ((if_neg w1).trans ((if_neg w2).trans (if_pos w3)));have HN:=hq (HO5.o.trans (if_pos (by omega)));have HWO2:=hq hwo;clear HO5 HWO K1 K2 K3 w1 w2 w3 hwo;go_wp2_with fail
         go_ret3
         exact OnePost.mk HN.o (by rw[HWO2.o];rfl) rfl rfl (Below.refl _ _)
        ·have j3:=K3.o.trans (decide_eq_false w3);have hwo:=HWO.o.trans ((if_neg w1).trans ((if_neg w2).trans (if_neg w3)));have HN:=hq (HO5.o.trans (if_neg (fun h=>h hwo)));clear HO5 HWO K1 K2 K3 w1 w2 w3 hwo;go_wp2_with fail
         go_ret3
         exact OnePost.mk HN.o rfl rfl rfl (Below.refl _ _)
theorem toksGo_step {s:ByteArray} {f p:Nat} {acc:List Tok} (h:p<s.size)(he: ¬(oneM s p).2.2≠0):zo9 s (f+1) p acc=zo9 s f (oneM s p).2.1 (acc++[((oneM s p).1,p,(oneM s p).2.1)]):=by
 rw[zo9,if_pos h,if_neg he]
theorem toksGo_bad {s:ByteArray} {f p:Nat} {acc:List Tok} (h:p<s.size)(he:(oneM s p).2.2≠0):zo9 s (f+1) p acc=(acc,(oneM s p).2.1,(oneM s p).2.2):=by
 rw[zo9,if_pos h,if_pos he]
theorem toksGo_end {s:ByteArray} {f p:Nat} {acc:List Tok} (h: ¬p<s.size):zo9 s f p acc=(acc,p,0):=by
 cases f with
 |zero=>rfl
 |succ f=>rw[zo9,if_neg h]
theorem rtokens4_any(s:ByteArray)(w:World)(hsm:s.size<=maxLen):Calls Tryz.prog 118 #[.string s] w (zR0 (zd0 s) w):=by
 obtain⟨i0,hi,hz0,hz1,hz2⟩:=info_parts infoTok;unfold maxLen at hsm;have HD:Hq (zd0 s=if 65536<s.size then([],0,3) else if (zv3 s).2.2≠0 then([],(zv3 s).2.1,(zv3 s).2.2) else((zv3 s).1,s.size,0)):=hq rfl;have HG:Hq (zv3 s=zo9 s s.size 0 []):=hq rfl;generalize zd0 s=R at *;by_cases hl:65536<s.size
 ·have HN:=hq (HD.o.trans (if_pos hl));clear HD HG;go_enter Tryz.func118,Tryz.ntmps118
  go_wp2_with fail
  go_ret3
  exact⟨.slice none 0 0,by rw[HN.o];rfl,by rw[HN.o];exact World.ownsRow_nil _ _ _ _,Below.refl _ _⟩
 ·have HD2:=hq (HD.o.trans (if_neg hl));have hs:s.size<=1099511627776:=by omega
  generalize zv3 s=TM at *;clear HD;go_enter Tryz.func118,Tryz.ntmps118
  go_wp2_with fail
  go_loopw [5,6] (fun v i wr=> ∃(p f:Nat) (acc:List Tok),p<=s.size/\i= .int .i64 (p:Int)/\s.size<=p+f/\acc.length<=p/\Hq (TM=zo9 s f p acc)/\wr.ownsRow w.heap.size 131 3 v acc.length (zd7 acc)/\Below w.heap.size w wr) (fun _ i _=>s.size-(intOf i).toNat)
  case atStart=>exact⟨0,s.size,[],Nat.zero_le _,rfl,by omega,Nat.le_refl _,HG,World.ownsRow_nil _ _ _ _,Below.refl _ _⟩
  case round=>
   obtain⟨p,f,acc,hp,rfl,hf,hal,htm,hown,hb⟩:=hrel;clear HG;by_cases hlt:p<s.size
   ·obtain ⟨f,rfl⟩: ∃g,f=g+1:=⟨f-1,by omega⟩;obtain⟨b1,b2,b3,b4⟩:=zA4 s p hlt;have HO:=hq (fun W=>rone4_any s p W hs hlt);have HS:=hq (fun h=>htm.o.trans (toksGo_step (f:=f) (acc:=acc) hlt h));have HB:=hq (fun h=>htm.o.trans (toksGo_bad (f:=f) (acc:=acc) hlt h));clear htm;generalize oneM s p=o at *;obtain⟨k,e,err⟩:=o;simp only at b1 b2 b3 b4;have hbs:=hb.size;by_cases he:err≠0
    ·have ht:=HB.o he;have e1:(err !=0)=true:=bne_iff_ne.2 he;have HN:Hq (R=([],e,err)):=hq (by rw[HD2.o,ht];exact if_pos he);clear HB HS he ht HD2 b4 hown;go_wp2_with fail
     refine(HO.o _).mono ?_;rintro e' w2 ⟨rfl,hb2⟩
     replace hb:=za hb hb2
     clear HO hb2;go_wp2_with fail
     go_ret3
     exact⟨.slice none 0 0,by rw[HN.o];rfl,by rw[HN.o];exact World.ownsRow_nil _ _ _ _,hb⟩
    ·have he0:err=0:=by omega
     have e1:(err !=0)=false:=by rw[he0];rfl
     have HN:=hq (HS.o he);have b5:=(b4 he0).1;clear HB HS he he0 b4;go_wp2_with fail
     refine(HO.o _).mono ?_;rintro e' w2 ⟨rfl,hb2⟩;have hown2:w2.ownsRow w.heap.size 131 3 _ acc.length (zd7 acc):=hown.kept (row:=none) ⟨hb2.os,hb2.tape,hb2.output,hb2.size,fun k hk _=>hb2.block k hk⟩ (Classical.em _);have hbs2:=hb2.size
     replace hb:=za hb hb2
     clear HO hb2 hown;go_wp2_with (at_builtin;refine wpList_append_own _ rfl _ _ 123 rfl w.heap.size 131 i0 (.agg #[.int .i64 0,.int .i64 0,.int .i64 0]) 3 24 Tryz.underlying123 hi hz0 hz1 hz2 rfl (by decide) _ _ _ rfl (hown2.alloc _) ⟨w2.heap.size,0,none⟩ 1 1 [.int .i64 (k:Int),.int .i64 (p:Int),.int .i64 (e:Int)] rfl rfl (ze0 _ [.int .i64 (k:Int),.int .i64 (p:Int),.int .i64 (e:Int)] _) (zK3 _ _ _) (by unfold maxLen;omega) (by omega) (by rw[World.size_alloc];omega) ?_)
     intro v' w3 hown3 hgrow _;have hb3:=(hb.alloc (by omega) (.cells #[.int .i64 (k:Int),.int .i64 (p:Int),.int .i64 (e:Int)] 131)).grown hgrow (by rw[World.size_alloc];omega) (fun j ej=>(hown2.lt j ej).1);go_wp2_with fail
     go_roundw
     case rel=>exact⟨e,f,acc++[(k,p,e)],b2,rfl,by omega,by rw[List.length_append,List.length_singleton];omega,HN,by rw[zr1,List.length_append];exact hown3,hb3⟩
     case measure=>simp[intOf];omega
   ·obtain rfl:p=s.size:=by omega
    have ht:=htm.o.trans (toksGo_end hlt);have HN:Hq (R=(acc,s.size,0)):=hq (by rw[HD2.o,ht];exact if_neg (fun h=>h rfl));clear htm ht HD2;go_wp2_with fail
    go_ret3
    exact⟨_,by rw[HN.o];rfl,by rw[HN.o];exact hown,hb⟩
end Go.Proofs.YtkafjblfjdpdaaaGreatDoor
