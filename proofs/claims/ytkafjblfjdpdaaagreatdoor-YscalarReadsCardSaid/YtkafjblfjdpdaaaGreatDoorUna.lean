/-
  PLAIN MATHEMATICS: what stands in quotes: the program's way.
  WALKS: quote.digit, quote.unicode.
  WALKS: quote.unicode.
  WALK: quote.escape at a pair of escapes that stand for one rune.
  WALKS: quote.escape.
  PLAIN MATHEMATICS: a part of a text that is cut off is that part; an escape's bytes are ASCII.
  PLAIN MATHEMATICS: runes' bytes; decoding is local; what a scan hands on.
-/
import Derived.Test.YtkafjblfjdpdaaaGreatDoorVlBC
set_option maxHeartbeats 2000000
set_option maxRecDepth 1000000
namespace Go.Proofs.YtkafjblfjdpdaaaGreatDoor
open Go.RowKit
def hexv(c:Nat):Option Nat:=if 48<=c/\c<=57 then some (c-48) else if 97<=c/\c<=102 then some (c-87) else if 65<=c/\c<=70 then some (c-55) else none
theorem zl9 {c n:Nat} (h:hexv c=some n):n<16/\c<128:=by
 unfold hexv at h;split at h
 ·injection h with h;omega
 ·split at h
  ·injection h with h;omega
  ·split at h
   ·injection h with h;omega
   ·cases h
def hex4(a b c d:Nat):Option Nat:=
 match hexv a,hexv b,hexv c,hexv d with
 |some x,some y,some z,some u=>some (((x*16+y)*16+z)*16+u)
 |_,_,_,_=>none
def uni(s:ByteArray)(p:Nat):Option Nat:=
 if p+6<=s.size/\byt s p=92/\byt s (p+1)=117 then hex4 (byt s (p+2)) (byt s (p+3)) (byt s (p+4)) (byt s (p+5)) else none
theorem hex4_lt {a b c d n:Nat} (h:hex4 a b c d=some n):n<65536:=by
 unfold hex4 at h;split at h
 ·rename_i x y z u h1 h2 h3 h4;have:=zl9 h1;have:=zl9 h2;have:=zl9 h3;have:=zl9 h4;injection h with h
  omega
 ·cases h
theorem uni_lt {s:ByteArray} {p n:Nat} (h:uni s p=some n):n<65536:=by
 unfold uni at h;split at h
 ·exact hex4_lt h
 ·cases h
def escU(s:ByteArray)(p:Nat):Option (Nat×Nat):=
 match uni s p with
 |none=>none
 |some n=>
  if 56320<=n/\n<=57343 then none
  else if n<55296\/57343<n then some (n,6)
  else match uni s (p+6) with
   |none=>none
   |some m=>if m<56320\/57343<m then none else some (65536+(n-55296)*1024+(m-56320),12)
def escM(s:ByteArray)(p:Nat):Option (Nat×Nat):=
 if s.size<p+2 then none
 else if byt s (p+1)=34\/byt s (p+1)=92\/byt s (p+1)=47 then some (byt s (p+1),2)
 else if byt s (p+1)=98 then some (8,2) else if byt s (p+1)=102 then some (12,2) else if byt s (p+1)=110 then some (10,2)
 else if byt s (p+1)=114 then some (13,2) else if byt s (p+1)=116 then some (9,2) else escU s p
def zf2(s:ByteArray)(p:Nat):Option (Nat×Nat):=
 if byt s p=92 then escM s p else if byt s p<32 then none else if bad s p then none else some (Utf8.decode s p)
theorem escU_bd {s:ByteArray} {p r n:Nat} (h:escU s p=some (r,n)):r<=1114111/\(n=6/\p+6<=s.size\/n=12/\p+12<=s.size)/\(r<55296\/57343<r):=by
 have hsz: ∀q m,uni s q=some m->q+6<=s.size:=fun q m hm=>by
  unfold uni at hm;split at hm
  ·rename_i h;exact h.1
  ·cases hm
 unfold escU at h;split at h
 ·cases h
 ·rename_i m hm;have h1:=uni_lt hm;have h2:=hsz p m hm;split at h
  ·cases h
  ·split at h
   ·injection h with h;injection h with h3 h4;omega
   ·split at h
    ·cases h
    ·rename_i k hk;have h5:=uni_lt hk;have h6:=hsz _ k hk;split at h
     ·cases h
     ·injection h with h;injection h with h3 h4;omega
theorem zQ3 {s:ByteArray} {p r n:Nat} (h:escM s p=some (r,n)):r<=1114111/\2<=n/\n<=12/\p+n<=s.size/\(r<55296\/57343<r):=by
 unfold escM at h;have hb:=zd3 s (p+1);split at h
 ·cases h
 ·split at h
  ·injection h with h;injection h with h3 h4;omega
  ·repeat (split at h;(injection h with h;injection h with h3 h4;omega))
   have:=escU_bd h;omega
theorem zn3 {s:ByteArray} {p r n:Nat} (hp:p<s.size)(h:zf2 s p=some (r,n)):r<=1114111/\1<=n/\n<=12/\p+n<=s.size/\(r<55296\/57343<r):=by
 unfold zf2 at h;split at h
 ·have:=zQ3 h;omega
 ·split at h
  ·cases h
  ·split at h
   ·cases h
   ·rename_i hb;injection h with h
    have h1:=zv0 s p hb;have h2:=zi4 s p;have h3:=zp8 s p hp;have h4:=wd_le4 s p;unfold wd at h2 h3 h4;rw[h]at h1 h2 h3 h4;simp only at h1 h2 h3 h4;omega
def zc5(s:ByteArray):Nat->Nat->List Nat->Nat×Int×List Nat
 |0,_,acc=>(s.size,2,acc)
 |f+1,p,acc=>
  if p<s.size then
   (if byt s p=34 then(p+1,0,acc) else match zf2 s p with
    |none=>(p,2,acc)
    |some x=>zc5 s f (p+x.2) (acc++[x.1]))
  else(s.size,2,acc)
def zb7(s:ByteArray)(a:Nat):Nat×Int×List Nat:=if a<s.size/\byt s a=34 then zc5 s s.size (a+1) [] else(a,2,[])
def encB(r:Nat):Bs:=(Lib.encodeRuneZ (r:Int)).map fun x=>UInt8.ofNat x.toNat
def zd(l:List Nat):Bs:=l.flatMap encB
theorem zv9(r:Nat):Lib.runeCells (r:Int)=Lib.byteCells (encB r):=by
 unfold Lib.runeCells Lib.byteCells encB;rw[List.map_map];refine List.map_congr_left fun x hx=> ?_
 have:=Lib.encodeRuneZ_byte (r:Int) x hx;show Value.int .u8 x=Value.int .u8 ((UInt8.ofNat x.toNat).toNat:Int);rw[UInt8.toNat_ofNat_of_lt' (show x.toNat<256 by omega)]
 congr 1;omega
def zb4(s:ByteArray):Bs×Nat×Int:=
 let x:=zb7 s 0
 if x.2.1≠0 then([],x.1,x.2.1) else if x.1≠s.size then([],x.1,2) else(zd x.2.2,x.1,0)
def DigPost(o:Option Nat)(w:World)(e:Ending)(w':World):Prop:=e= .returned (.tuple #[.int .i32 ((o.getD 0:Nat):Int),.bool o.isSome])/\w=w'
theorem digit_any(c:Nat)(w:World)(hc:c<=2147483647):Calls Tryz.prog 234 #[.int .i32 (c:Int)] w (DigPost (hexv c) w):=by
 generalize hR:hexv c=R;have HR:=hq hR;clear hR;unfold hexv at HR;by_cases h1:48<=c/\c<=57
 ·have HN:Hq (R=some (c-48)):=hq (by rw[←HR.o,if_pos h1]);obtain⟨g1,g2⟩:=h1;clear HR;go_enter Tryz.func234,Tryz.ntmps234
  go_wp2_with fail
  go_ret2
  exact⟨by rw[HN.o];exact zo2 (zb5 (by simp only[Option.getD_some];omega)) rfl,rfl⟩
 ·by_cases h2:97<=c/\c<=102
  ·have HN:Hq (R=some (c-87)):=hq (by rw[←HR.o,if_neg h1,if_pos h2]);obtain⟨g1,g2⟩:=h2;clear HR h1;have g0: ¬c<=57:=by omega
   go_enter Tryz.func234,Tryz.ntmps234
   go_wp2_with fail
   go_ret2
   exact⟨by rw[HN.o];exact zo2 (zb5 (by simp only[Option.getD_some];omega)) rfl,rfl⟩
  ·by_cases h3:65<=c/\c<=70
   ·have HN:Hq (R=some (c-55)):=hq (by rw[←HR.o,if_neg h1,if_neg h2,if_pos h3]);obtain⟨g1,g2⟩:=h3;clear HR h1 h2;have g0: ¬c<=57:=by omega
    have g3: ¬97<=c:=by omega
    go_enter Tryz.func234,Tryz.ntmps234
    go_wp2_with fail
    go_ret2
    exact⟨by rw[HN.o];exact zo2 (zb5 (by simp only[Option.getD_some];omega)) rfl,rfl⟩
   ·have HN:Hq (R=none):=hq (by rw[←HR.o,if_neg h1,if_neg h2,if_neg h3]);clear HR;by_cases a1:48<=c
    ·have a2: ¬c<=57:=by omega
     by_cases b1:97<=c
     ·have b2: ¬c<=102:=by omega
      have d1:65<=c:=by omega
      have d2: ¬c<=70:=by omega
      clear h1 h2 h3;go_enter Tryz.func234,Tryz.ntmps234
      go_wp2_with fail
      go_ret2
      exact⟨by rw[HN.o];rfl,rfl⟩
     ·by_cases d1:65<=c
      ·have d2: ¬c<=70:=by omega
       clear h1 h2 h3;go_enter Tryz.func234,Tryz.ntmps234
       go_wp2_with fail
       go_ret2
       exact⟨by rw[HN.o];rfl,rfl⟩
      ·clear h1 h2 h3;go_enter Tryz.func234,Tryz.ntmps234
       go_wp2_with fail
       go_ret2
       exact⟨by rw[HN.o];rfl,rfl⟩
    ·have b1: ¬97<=c:=by omega
     have d1: ¬65<=c:=by omega
     clear h1 h2 h3;go_enter Tryz.func234,Tryz.ntmps234
     go_wp2_with fail
     go_ret2
     exact⟨by rw[HN.o];rfl,rfl⟩
def zp3(t:ByteArray):Nat->Option Nat
 |0=>some 0
 |k+1=>match zp3 t k with
  |none=>none
  |some a=>match hexv (byt t (2+k)) with
   |none=>none
   |some x=>some (a*16+x)
theorem hexAcc_four(t:ByteArray):zp3 t 4=hex4 (byt t 2) (byt t 3) (byt t 4) (byt t 5):=by
 unfold hex4;simp only[zp3,Nat.add_zero,Nat.reduceAdd];cases hexv (byt t 2) with
 |none=>rfl
 |some a=>
  cases hexv (byt t 3) with
  |none=>rfl
  |some b=>
   cases hexv (byt t 4) with
   |none=>rfl
   |some c=>
    cases hexv (byt t 5) with
    |none=>rfl
    |some d=>simp
theorem zH7(t:ByteArray): ∀k a,zp3 t k=some a->a<16^k
 |0,a,h=>by injection h with h;omega
 |k+1,a,h=>by
  unfold zp3 at h;split at h
  ·cases h
  ·rename_i b hb;have ih:=zH7 t k b hb;split at h
   ·cases h
   ·rename_i x hx;have:=(zl9 hx).1;injection h with h
    rw[Nat.pow_succ];omega
theorem zH6(t:ByteArray): ∀k j,zp3 t k=none->zp3 t (k+j)=none
 |k,0,h=>h
 |k,j+1,h=>by
  have ih:=zH6 t k j h;rw[←Nat.add_assoc,zp3,ih]
def UniPost(o:Option Nat)(w:World)(e:Ending)(w':World):Prop:=e= .returned (.tuple #[.int .i32 ((o.getD 0:Nat):Int),.bool o.isSome])/\Below w.heap.size w w'
theorem zQ9(t:ByteArray)(a b j:Nat)(hb:b<=t.size)(hj:a+j<b):byt (t.extract a b) j=byt t (a+j):=by
 have h1:j<(t.extract a b).size:=by rw[ByteArray.size_extract];omega
 rw[zb6 _ j h1,zb6 t (a+j) (by omega)]
 congr 1
 simp[ByteArray.getElem_extract]
theorem hexv_dec(u:ByteArray)(p:Nat):hexv (Utf8.decode u p).1=hexv (byt u p)/\(∀x,hexv (Utf8.decode u p).1=some x->(Utf8.decode u p).2=1):=by
 by_cases h:byt u p<128
 ·rw[zf4 u p h];exact⟨rfl,fun _ _=>rfl⟩
 ·have h1:=zv u p (by omega);have n1:hexv (Utf8.decode u p).1=none:=by
   cases hx:hexv (Utf8.decode u p).1 with
   |none=>rfl
   |some x=>have:=(zl9 hx).2;omega
  have n2:hexv (byt u p)=none:=by
   cases hx:hexv (byt u p) with
   |none=>rfl
   |some x=>have:=(zl9 hx).2;omega
  rw[n1,n2];exact⟨rfl,fun x hx=>by cases hx⟩
theorem zE3(t:ByteArray)(w:World)(hs:t.size<=1099511627776):Calls Tryz.prog 211 #[.string t] w (UniPost (uni t 0) w):=by
 generalize hR:uni t 0=R;have HR:=hq hR;clear hR;unfold uni at HR;go_enter Tryz.func211,Tryz.ntmps211
 go_upto_region 1 with fail
 go_cut [21] (fun c wx=>c= .bool (decide (¬(0+6<=t.size/\byt t 0=92/\byt t (0+1)=117)))/\wx=w)
 case first=>
  clear HR;by_cases h6:t.size<6
  ·have HN:Hq (decide (¬(0+6<=t.size/\byt t 0=92/\byt t (0+1)=117))=true):=hq (decide_eq_true (fun h=>by omega));go_wp2_with fail
   go_meet
   exact⟨congrArg Value.bool HN.o.symm,rfl⟩
  ·have y0:((t[0]'(by omega)).toNat:Int)=(byt t 0:Int):=by rw[zb6 t 0 (by omega)]
   have y1:((t[1]'(by omega)).toNat:Int)=(byt t 1:Int):=by rw[zb6 t 1 (by omega)]
   have e6:decide ((t.size:Int)<6)=false:=decide_eq_false (by omega);by_cases h0:byt t 0=92
   ·have e0:((byt t 0:Int) !=92)=false:=by rw[h0];rfl
    have HN:Hq (decide (¬(0+6<=t.size/\byt t 0=92/\byt t (0+1)=117))=((byt t 1:Int) !=117)):=hq (by
     rw[Bool.eq_iff_iff,decide_eq_true_iff,bne_iff_ne,Nat.zero_add,Nat.zero_add];constructor
     ·intro h hh;exact h ⟨by omega,h0,by omega⟩
     ·intro h hh;exact h (by omega))
    clear h0;generalize byt t 0=b0 at *;generalize byt t 1=b1 at *;go_wp2_with fail
    go_meet
    exact⟨congrArg Value.bool HN.o.symm,rfl⟩
   ·have e0:((byt t 0:Int) !=92)=true:=bne_iff_ne.2 (by omega);have HN:Hq (decide (¬(0+6<=t.size/\byt t 0=92/\byt t (0+1)=117))=true):=hq (decide_eq_true (fun h=>h0 h.2.1));clear h0;generalize byt t 0=b0 at *;generalize byt t 1=b1 at *;go_wp2_with fail
    go_meet
    exact⟨congrArg Value.bool HN.o.symm,rfl⟩
 case rest=>
  obtain⟨rfl,hwc⟩:=hcut;obtain rfl:=hwc.symm;by_cases hg:0+6<=t.size/\byt t 0=92/\byt t (0+1)=117
  ·have HN:=hq (HR.o.symm.trans (if_pos hg));have hz6:6<=t.size:=by omega
   rw[decide_eq_false (fun h=>h hg)];clear HR hg;have HU:Hq (R=zp3 t 4):=hq (by rw[HN.o,hexAcc_four]);have hus:(t.extract 2 6).size=4:=by rw[ByteArray.size_extract];omega
   have hub: ∀j,j<4->byt (t.extract 2 6) j=byt t (2+j):=fun j hj=>zQ9 t 2 6 j hz6 (by omega)
   clear HN;go_wp2_with fail
   generalize t.extract 2 6=u at *;have HUB:=hq hub;have HUS:=hq hus;have hus1:u.size<=4:=by omega
   have hus2:4<=u.size:=by omega
   clear hub hus
   go_loopw [4] (fun n wr=> ∃(pos a:Nat),pos<=4/\n= .int .i32 a/\Hq (zp3 t pos=some a)/\a<65536/\(pos<4->a<4096)/\wr.heap[w.heap.size]?=some (.stringIter u pos)/\Below w.heap.size w wr)
    (fun _ wr=>4-wr.iterPos w.heap.size)
   case atStart=>exact⟨0,0,by omega,rfl,hq rfl,by omega,fun _=>by omega,World.iter_heap w u 0,(Below.refl _ _).alloc (Nat.le_refl _) _⟩
   case round=>
    obtain⟨pos,a,hp4,rfl,hacc,ha,ha3,hit,hb⟩:=hrel;have HA3:=hq ha3;clear ha3;have hlt:w.heap.size<wr.heap.size:=(Array.getElem?_eq_some_iff.1 hit).1;by_cases hp:pos<4
    ·have hpu:pos<u.size:=by omega
     have hnx: ∀ty,(Instr.next (.pointer (some ⟨w.heap.size,0,none⟩)) true ty).run Tryz.prog wr=_:=fun ty=>Lib.run_next_any_at wr w.heap.size u pos ty hit hpu
     have hit2:=Lib.iterAt_heap wr w.heap.size u pos (pos+(Utf8.decode u pos).2) hit;have hb2:=Lib.below_iterAt hb (k:=w.heap.size) (Nat.le_refl _) u (pos+(Utf8.decode u pos).2);have hdl:=decode_le u pos;have hxd:=hexv_dec u pos;rw[HUB.o pos hp]at hxd;have hdg:=fun W=>digit_any (Utf8.decode u pos).1 W hdl
     have HST:Hq (zp3 t (pos+1)=match hexv (Utf8.decode u pos).1 with|none=>none|some x=>some (a*16+x)):=hq (by
      rw[zp3,hacc.o];simp only;rw[hxd.1];all_goals (cases hexv (byt t (2+pos))<;>rfl))
     have HLT:=hq (zH7 t (pos+1));have hx16: ∀x,hexv (Utf8.decode u pos).1=some x->x<16:=fun x hx=>(zl9 hx).1
     have ha3:=HA3.o hp;have HW:=hq hxd.2;clear hxd;generalize hexv (Utf8.decode u pos).1=o at *;have HDG:=hq hdg;have HX16:=hq hx16;clear hdg hx16;go_wp2_with fail
     refine(HDG.o _).mono ?_;cases o with
     |none=>
      rintro e w2 ⟨rfl,hw2⟩;obtain rfl:=hw2;have HN:Hq (R=none):=hq (by
       rw[HU.o];have h1:zp3 t (pos+1)=none:=HST.o;have:=zH6 t (pos+1) (3-pos) h1;rwa [show pos+1+(3-pos)=4 by omega]at this)
      clear HST HU;go_wp2_with fail
      go_ret2
      exact⟨by rw[HN.o];rfl,hb2⟩
     |some x=>
      rintro e w2 ⟨rfl,hw2⟩;obtain rfl:=hw2;have hx:=HX16.o x rfl;have hw1:(Utf8.decode u pos).2=1:=HW.o x rfl;have HAC:Hq (zp3 t (pos+1)=some (a*16+x)):=hq HST.o;have HITK:Hq ((wr.iterAt w.heap.size u (pos+(Utf8.decode u pos).2)).heap[w.heap.size]?=some (.stringIter u (pos+1))):=hq (by rw[hw1]at hit2 ⊢;exact hit2);have HIT0:=hq hit;have HPOS:Hq ((wr.iterAt w.heap.size u (pos+(Utf8.decode u pos).2)).iterPos w.heap.size=pos+1):=hq (by simp only[World.iterPos,HITK.o]);have HPOS0:Hq (wr.iterPos w.heap.size=pos):=hq (by simp only[World.iterPos,hit]);have HB4:Hq (pos+1<4->a*16+x<4096):=hq (fun h=>by
       have h2:=zH7 t (pos+1) (a*16+x) HAC.o;have h3:16^(pos+1)<=16^3:=Nat.pow_le_pow_right (by omega) (by omega);omega)
      clear HST HU hw1 hit2 hit HW;go_wp2_with fail
      go_roundw
      case rel=>exact⟨pos+1,a*16+x,by omega,zb5 (by omega),HAC,by omega,HB4.o,HITK.o,hb2⟩
      case measure=>rw[HPOS.o,HPOS0.o];omega
    ·have hpu: ¬pos<u.size:=by omega
     have hnx: ∀ty,(Instr.next (.pointer (some ⟨w.heap.size,0,none⟩)) true ty).run Tryz.prog wr=_:=fun ty=>Lib.run_next_end_at wr w.heap.size u pos ty hit hpu
     obtain rfl:pos=4:=by omega
     have HN:Hq (R=some a):=hq (by rw[HU.o];exact hacc.o);clear hacc HU;go_wp2_with fail
     go_ret2
     exact⟨by rw[HN.o];rfl,hb⟩
  ·have HN:=hq (HR.o.symm.trans (if_neg hg));rw[decide_eq_true hg];clear HR hg;go_wp2_with fail
   go_ret2
   exact⟨by rw[HN.o];rfl,Below.refl _ _⟩
theorem escape_pair(t:ByteArray)(w:World)(c:Nat)(n m:Int)(h6:6<=t.size)(hs:t.size<=1099511627776)(y1:((t[1]'(by omega)).toNat:Int)=(c:Int))
 (e1:((c:Int)==34)=false) (e2:((c:Int)==92)=false) (e3:((c:Int)==47)=false) (f1:((c:Int)==98)=false) (f2:((c:Int)==102)=false) (f3:((c:Int)==110)=false) (f4:((c:Int)==114)=false) (f5:((c:Int)==116)=false)
 (n1:55296<=n) (n2:n<=56319) (m1:56320<=m) (m2:m<=57343)
 (HO:Hq (∀W,Calls Tryz.prog 211 #[.string t] W fun e w'=>e= .returned (.tuple #[.int .i32 n,.bool true])/\Below W.heap.size W w'))
 (HS:Hq (∀W,Calls Tryz.prog 211 #[.string (t.extract 6 t.size)] W fun e w'=>e= .returned (.tuple #[.int .i32 m,.bool true])/\Below W.heap.size W w')):
 Calls Tryz.prog 187 #[.string t] w fun e w'=>e= .returned (.tuple #[.int .i32 (65536+(n-55296)*1024+(m-56320)),.int .i64 12])/\Below w.heap.size w w':=by
 go_enter Tryz.func187,Tryz.ntmps187
 go_wp2_with fail
 refine(HO.o _).mono ?_;rintro e w1 ⟨rfl,hb1⟩;go_wp2_with fail
 refine(HS.o _).mono ?_;rintro e w2 ⟨rfl,hb2⟩;have hb':=za hb1 hb2;clear hb1 hb2;go_wp2_with fail
 go_ret2
 exact⟨zo2 (zb5 (by omega)) rfl,hb'⟩
theorem escape_none(t:ByteArray)(w:World)(c:Nat)(h6:2<=t.size)(hs:t.size<=1099511627776)(y1:((t[1]'(by omega)).toNat:Int)=(c:Int))
 (e1:((c:Int)==34)=false) (e2:((c:Int)==92)=false) (e3:((c:Int)==47)=false) (f1:((c:Int)==98)=false) (f2:((c:Int)==102)=false) (f3:((c:Int)==110)=false) (f4:((c:Int)==114)=false) (f5:((c:Int)==116)=false)
 (HO:Hq (∀W,Calls Tryz.prog 211 #[.string t] W fun e w'=>e= .returned (.tuple #[.int .i32 0,.bool false])/\Below W.heap.size W w')):
 Calls Tryz.prog 187 #[.string t] w fun e w'=>e= .returned (.tuple #[.int .i32 0,.int .i64 0])/\Below w.heap.size w w':=by
 go_enter Tryz.func187,Tryz.ntmps187
 go_wp2_with fail
 refine(HO.o _).mono ?_;rintro e w1 ⟨rfl,hb1⟩;go_wp2_with fail
 go_ret2
 exact⟨rfl,hb1⟩
theorem escape_low(t:ByteArray)(w:World)(c:Nat)(n:Int)(h6:2<=t.size)(hs:t.size<=1099511627776)(y1:((t[1]'(by omega)).toNat:Int)=(c:Int))
 (e1:((c:Int)==34)=false) (e2:((c:Int)==92)=false) (e3:((c:Int)==47)=false) (f1:((c:Int)==98)=false) (f2:((c:Int)==102)=false) (f3:((c:Int)==110)=false) (f4:((c:Int)==114)=false) (f5:((c:Int)==116)=false)
 (n1:56320<=n) (n2:n<=57343)
 (HO:Hq (∀W,Calls Tryz.prog 211 #[.string t] W fun e w'=>e= .returned (.tuple #[.int .i32 n,.bool true])/\Below W.heap.size W w')):
 Calls Tryz.prog 187 #[.string t] w fun e w'=>e= .returned (.tuple #[.int .i32 0,.int .i64 0])/\Below w.heap.size w w':=by
 go_enter Tryz.func187,Tryz.ntmps187
 go_wp2_with fail
 refine(HO.o _).mono ?_;rintro e w1 ⟨rfl,hb1⟩;go_wp2_with fail
 go_ret2
 exact⟨rfl,hb1⟩
theorem escape_one1(t:ByteArray)(w:World)(c:Nat)(n:Int)(h6:2<=t.size)(hs:t.size<=1099511627776)(y1:((t[1]'(by omega)).toNat:Int)=(c:Int))
 (e1:((c:Int)==34)=false) (e2:((c:Int)==92)=false) (e3:((c:Int)==47)=false) (f1:((c:Int)==98)=false) (f2:((c:Int)==102)=false) (f3:((c:Int)==110)=false) (f4:((c:Int)==114)=false) (f5:((c:Int)==116)=false)
 (n1:n<55296) (n2:0<=n)
 (HO:Hq (∀W,Calls Tryz.prog 211 #[.string t] W fun e w'=>e= .returned (.tuple #[.int .i32 n,.bool true])/\Below W.heap.size W w')):
 Calls Tryz.prog 187 #[.string t] w fun e w'=>e= .returned (.tuple #[.int .i32 n,.int .i64 6])/\Below w.heap.size w w':=by
 go_enter Tryz.func187,Tryz.ntmps187
 go_wp2_with fail
 refine(HO.o _).mono ?_;rintro e w1 ⟨rfl,hb1⟩;go_wp2_with fail
 go_ret2
 exact⟨rfl,hb1⟩
theorem escape_one2(t:ByteArray)(w:World)(c:Nat)(n:Int)(h6:2<=t.size)(hs:t.size<=1099511627776)(y1:((t[1]'(by omega)).toNat:Int)=(c:Int))
 (e1:((c:Int)==34)=false) (e2:((c:Int)==92)=false) (e3:((c:Int)==47)=false) (f1:((c:Int)==98)=false) (f2:((c:Int)==102)=false) (f3:((c:Int)==110)=false) (f4:((c:Int)==114)=false) (f5:((c:Int)==116)=false)
 (n1:57343<n) (n2:n<=65535)
 (HO:Hq (∀W,Calls Tryz.prog 211 #[.string t] W fun e w'=>e= .returned (.tuple #[.int .i32 n,.bool true])/\Below W.heap.size W w')):
 Calls Tryz.prog 187 #[.string t] w fun e w'=>e= .returned (.tuple #[.int .i32 n,.int .i64 6])/\Below w.heap.size w w':=by
 go_enter Tryz.func187,Tryz.ntmps187
 go_wp2_with fail
 refine(HO.o _).mono ?_;rintro e w1 ⟨rfl,hb1⟩;go_wp2_with fail
 go_ret2
 exact⟨rfl,hb1⟩
theorem escape_half(t:ByteArray)(w:World)(c:Nat)(n:Int)(h6:6<=t.size)(hs:t.size<=1099511627776)(y1:((t[1]'(by omega)).toNat:Int)=(c:Int))
 (e1:((c:Int)==34)=false) (e2:((c:Int)==92)=false) (e3:((c:Int)==47)=false) (f1:((c:Int)==98)=false) (f2:((c:Int)==102)=false) (f3:((c:Int)==110)=false) (f4:((c:Int)==114)=false) (f5:((c:Int)==116)=false)
 (n1:55296<=n) (n2:n<=56319)
 (HO:Hq (∀W,Calls Tryz.prog 211 #[.string t] W fun e w'=>e= .returned (.tuple #[.int .i32 n,.bool true])/\Below W.heap.size W w'))
 (HS:Hq (∀W,Calls Tryz.prog 211 #[.string (t.extract 6 t.size)] W fun e w'=>e= .returned (.tuple #[.int .i32 0,.bool false])/\Below W.heap.size W w')):
 Calls Tryz.prog 187 #[.string t] w fun e w'=>e= .returned (.tuple #[.int .i32 0,.int .i64 0])/\Below w.heap.size w w':=by
 go_enter Tryz.func187,Tryz.ntmps187
 go_wp2_with fail
 refine(HO.o _).mono ?_;rintro e w1 ⟨rfl,hb1⟩;go_wp2_with fail
 refine(HS.o _).mono ?_;rintro e w2 ⟨rfl,hb2⟩;have hb':=za hb1 hb2;clear hb1 hb2;go_wp2_with fail
 go_ret2
 exact⟨zo2 (zb5 (by omega)) rfl,hb'⟩
theorem escape_bad1(t:ByteArray)(w:World)(c:Nat)(n m:Int)(h6:6<=t.size)(hs:t.size<=1099511627776)(y1:((t[1]'(by omega)).toNat:Int)=(c:Int))
 (e1:((c:Int)==34)=false) (e2:((c:Int)==92)=false) (e3:((c:Int)==47)=false) (f1:((c:Int)==98)=false) (f2:((c:Int)==102)=false) (f3:((c:Int)==110)=false) (f4:((c:Int)==114)=false) (f5:((c:Int)==116)=false)
 (n1:55296<=n) (n2:n<=56319) (m1:m<56320) (_:0<=m)
 (HO:Hq (∀W,Calls Tryz.prog 211 #[.string t] W fun e w'=>e= .returned (.tuple #[.int .i32 n,.bool true])/\Below W.heap.size W w'))
 (HS:Hq (∀W,Calls Tryz.prog 211 #[.string (t.extract 6 t.size)] W fun e w'=>e= .returned (.tuple #[.int .i32 m,.bool true])/\Below W.heap.size W w')):
 Calls Tryz.prog 187 #[.string t] w fun e w'=>e= .returned (.tuple #[.int .i32 0,.int .i64 0])/\Below w.heap.size w w':=by
 go_enter Tryz.func187,Tryz.ntmps187
 go_wp2_with fail
 refine(HO.o _).mono ?_;rintro e w1 ⟨rfl,hb1⟩;go_wp2_with fail
 refine(HS.o _).mono ?_;rintro e w2 ⟨rfl,hb2⟩;have hb':=za hb1 hb2;clear hb1 hb2;go_wp2_with fail
 go_ret2
 exact⟨zo2 (zb5 (by omega)) rfl,hb'⟩
theorem escape_bad2(t:ByteArray)(w:World)(c:Nat)(n m:Int)(h6:6<=t.size)(hs:t.size<=1099511627776)(y1:((t[1]'(by omega)).toNat:Int)=(c:Int))
 (e1:((c:Int)==34)=false) (e2:((c:Int)==92)=false) (e3:((c:Int)==47)=false) (f1:((c:Int)==98)=false) (f2:((c:Int)==102)=false) (f3:((c:Int)==110)=false) (f4:((c:Int)==114)=false) (f5:((c:Int)==116)=false)
 (n1:55296<=n) (n2:n<=56319) (m1:57343<m) (m2:m<=65535)
 (HO:Hq (∀W,Calls Tryz.prog 211 #[.string t] W fun e w'=>e= .returned (.tuple #[.int .i32 n,.bool true])/\Below W.heap.size W w'))
 (HS:Hq (∀W,Calls Tryz.prog 211 #[.string (t.extract 6 t.size)] W fun e w'=>e= .returned (.tuple #[.int .i32 m,.bool true])/\Below W.heap.size W w')):
 Calls Tryz.prog 187 #[.string t] w fun e w'=>e= .returned (.tuple #[.int .i32 0,.int .i64 0])/\Below w.heap.size w w':=by
 go_enter Tryz.func187,Tryz.ntmps187
 go_wp2_with fail
 refine(HO.o _).mono ?_;rintro e w1 ⟨rfl,hb1⟩;go_wp2_with fail
 refine(HS.o _).mono ?_;rintro e w2 ⟨rfl,hb2⟩;have hb':=za hb1 hb2;clear hb1 hb2;go_wp2_with fail
 go_ret2
 exact⟨zo2 (zb5 (by omega)) rfl,hb'⟩
theorem uni_sub(t:ByteArray)(a q:Nat)(ha:a<=t.size):uni (t.extract a t.size) q=uni t (a+q):=by
 unfold uni;have hsz:(t.extract a t.size).size=t.size-a:=by rw[ByteArray.size_extract];omega
 by_cases h:a+q+6<=t.size
 ·have e: ∀j,j<6->byt (t.extract a t.size) (q+j)=byt t (a+q+j):=fun j hj=>by
   rw[zQ9 t a t.size (q+j) (Nat.le_refl _) (by omega)];congr 1;omega
  have e0:=e 0 (by omega);rw[Nat.add_zero,Nat.add_zero]at e0;rw[hsz,e0,e 1 (by omega),e 2 (by omega),e 3 (by omega),e 4 (by omega),e 5 (by omega)];by_cases hc:byt t (a+q)=92/\byt t (a+q+1)=117
  ·rw[if_pos ⟨by omega,hc.1,hc.2⟩,if_pos ⟨h,hc.1,hc.2⟩]
  ·rw[if_neg (fun hh=>hc hh.2),if_neg (fun hh=>hc hh.2)]
 ·rw[if_neg (fun hh=>h (by have:=hh.1;omega)),if_neg (fun hh=>h hh.1)]
def EscPost(o:Option (Nat×Nat))(w:World)(e:Ending)(w':World):Prop:=e= .returned (.tuple #[.int .i32 (((o.getD (0,0)).1:Nat):Int),.int .i64 (((o.getD (0,0)).2:Nat):Int)])/\Below w.heap.size w w'
theorem EscPost.mk {o:Option (Nat×Nat)} {r n:Nat} {a b:Int} {w w':World} (h:o=some (r,n))(ha:a=(r:Int))(hb:b=(n:Int))(hw:Below w.heap.size w w'):EscPost o w (.returned (.tuple #[.int .i32 a,.int .i64 b])) w':=by
 subst h;subst ha;subst hb;exact⟨rfl,hw⟩
theorem EscPost.no {o:Option (Nat×Nat)} {w w':World} (h:o=none)(hw:Below w.heap.size w w'):EscPost o w (.returned (.tuple #[.int .i32 0,.int .i64 0])) w':=by
 subst h;exact⟨rfl,hw⟩
def esc2(n:Nat)(o6:Option Nat):Option (Nat×Nat):=
 match o6 with
 |none=>none
 |some m=>if m<56320\/57343<m then none else some (65536+(n-55296)*1024+(m-56320),12)
def esc1(o o6:Option Nat):Option (Nat×Nat):=
 match o with
 |none=>none
 |some n=>if 56320<=n/\n<=57343 then none else if n<55296\/57343<n then some (n,6) else esc2 n o6
theorem escU_is(t:ByteArray):escU t 0=esc1 (uni t 0) (uni t 6):=by
 unfold escU esc1 esc2;rw[Nat.zero_add]
 all_goals
  cases uni t 0 with
  |none=>rfl
  |some n=>cases uni t 6<;>rfl
theorem escape_any(t:ByteArray)(w:World)(hs:t.size<=1099511627776):Calls Tryz.prog 187 #[.string t] w (EscPost (escM t 0) w):=by
 generalize hR:escM t 0=R;have HR:=hq hR;clear hR;unfold escM at HR;simp only[Nat.zero_add]at HR;by_cases h2:t.size<2
 ·have HN:=hq (HR.o.symm.trans (if_pos h2));clear HR;go_enter Tryz.func187,Tryz.ntmps187
  go_wp2_with fail
  go_ret2
  exact EscPost.no HN.o (Below.refl _ _)
 ·have HR2:=hq (HR.o.symm.trans (if_neg h2));clear HR;have y1:((t[1]'(by omega)).toNat:Int)=(byt t 1:Int):=by rw[zb6 t 1 (by omega)]
  have hb1:=zd3 t 1;have ho:=fun W=>zE3 t W hs
  have hU:=escU_is t;have hlt:=fun n=> @uni_lt t 0 n
  have hlt6:=fun n=> @uni_lt t 6 n
  have hsz: ∀n,uni t 0=some n->6<=t.size:=fun n h=>by
   unfold uni at h;split at h
   ·rename_i hh;omega
   ·cases h
  have hsec:6<=t.size-> ∀W,Calls Tryz.prog 211 #[.string (t.extract 6 t.size)] W (UniPost (uni t 6) W):=fun h6 W=>by
   have:=zE3 (t.extract 6 t.size) W (by rw[ByteArray.size_extract];omega);rwa [uni_sub t 6 0 h6]at this
  generalize byt t 1=c at *;generalize escU t 0=U at *;generalize uni t 0=o at *;generalize uni t 6=o6 at *;have HO:=hq ho;have HU:=hq hU;have HLT:=hq hlt;have HLT6:=hq hlt6;have HSZ:=hq hsz;have HSEC:=hq hsec;clear ho hU hlt hlt6 hsz hsec;by_cases ha:c=34\/c=92\/c=47
  ·have HN:=hq (HR2.o.trans (if_pos ha));clear HR2 HU HLT HLT6 HSZ HSEC HO;have hcs:((c:Int)==34)=true\/(((c:Int)==34)=false/\((c:Int)==92)=true)\/(((c:Int)==34)=false/\((c:Int)==92)=false/\((c:Int)==47)=true):=by
    rcases ha with h|h|h
    ·left;rw[h];rfl
    ·right;left;rw[h];exact⟨rfl,rfl⟩
    ·right;right;rw[h];exact⟨rfl,rfl,rfl⟩
   clear ha;rcases hcs with e|⟨e,e'⟩|⟨e,e',e''⟩
   all_goals
    go_enter Tryz.func187,Tryz.ntmps187
    go_wp2_with fail
    go_ret2
    exact EscPost.mk HN.o rfl rfl (Below.refl _ _)
  ·have HR3:=hq (HR2.o.trans (if_neg ha));have e1:((c:Int)==34)=false:=beq_eq_false_iff_ne.2 (by omega);have e2:((c:Int)==92)=false:=beq_eq_false_iff_ne.2 (by omega);have e3:((c:Int)==47)=false:=beq_eq_false_iff_ne.2 (by omega);clear HR2 ha;by_cases b98:c=98
   ·have HN:=hq (HR3.o.trans (if_pos b98));have f98:((c:Int)==98)=true:=by rw[b98];rfl
    clear HR3 HU HLT HLT6 HSZ HSEC HO b98;go_enter Tryz.func187,Tryz.ntmps187
    go_wp2_with fail
    go_ret2
    exact EscPost.mk (r:=8) (n:=2) HN.o rfl rfl (Below.refl _ _)
   have HR4:=hq (HR3.o.trans (if_neg b98));have f98:((c:Int)==98)=false:=beq_eq_false_iff_ne.2 (by omega);clear HR3;by_cases b102:c=102
   ·have HN:=hq (HR4.o.trans (if_pos b102));have f102:((c:Int)==102)=true:=by rw[b102];rfl
    clear HR4 HU HLT HLT6 HSZ HSEC HO b102;go_enter Tryz.func187,Tryz.ntmps187
    go_wp2_with fail
    go_ret2
    exact EscPost.mk (r:=12) (n:=2) HN.o rfl rfl (Below.refl _ _)
   have HR5:=hq (HR4.o.trans (if_neg b102));have f102:((c:Int)==102)=false:=beq_eq_false_iff_ne.2 (by omega);clear HR4;by_cases b110:c=110
   ·have HN:=hq (HR5.o.trans (if_pos b110));have f110:((c:Int)==110)=true:=by rw[b110];rfl
    clear HR5 HU HLT HLT6 HSZ HSEC HO b110;go_enter Tryz.func187,Tryz.ntmps187
    go_wp2_with fail
    go_ret2
    exact EscPost.mk (r:=10) (n:=2) HN.o rfl rfl (Below.refl _ _)
   have HR6:=hq (HR5.o.trans (if_neg b110));have f110:((c:Int)==110)=false:=beq_eq_false_iff_ne.2 (by omega);clear HR5;by_cases b114:c=114
   ·have HN:=hq (HR6.o.trans (if_pos b114));have f114:((c:Int)==114)=true:=by rw[b114];rfl
    clear HR6 HU HLT HLT6 HSZ HSEC HO b114;go_enter Tryz.func187,Tryz.ntmps187
    go_wp2_with fail
    go_ret2
    exact EscPost.mk (r:=13) (n:=2) HN.o rfl rfl (Below.refl _ _)
   have HR7:=hq (HR6.o.trans (if_neg b114));have f114:((c:Int)==114)=false:=beq_eq_false_iff_ne.2 (by omega);clear HR6;by_cases b116:c=116
   ·have HN:=hq (HR7.o.trans (if_pos b116));have f116:((c:Int)==116)=true:=by rw[b116];rfl
    clear HR7 HU HLT HLT6 HSZ HSEC HO b116;go_enter Tryz.func187,Tryz.ntmps187
    go_wp2_with fail
    go_ret2
    exact EscPost.mk (r:=9) (n:=2) HN.o rfl rfl (Below.refl _ _)
   have HR8:=hq (HR7.o.trans (if_neg b116));have f116:((c:Int)==116)=false:=beq_eq_false_iff_ne.2 (by omega);clear HR7;have HR9:Hq (R=esc1 o o6):=hq (by rw[HR8.o,HU.o]);clear HR8 HU b98 b102 b110 b114 b116;have hb2:2<=t.size:=by omega
   cases o with
   |none=>
    have HN:Hq (R=none):=hq HR9.o;exact(escape_none t w c hb2 hs y1 e1 e2 e3 f98 f102 f110 f114 f116 (hq fun W=>HO.o W)).mono fun e w' ⟨he,hb⟩=>by subst he;exact EscPost.no HN.o hb
   |some n=>
    have hn:=HLT.o n rfl;have h6:=HSZ.o n rfl;have HR10:R=if 56320<=n/\n<=57343 then none else if n<55296\/57343<n then some (n,6) else esc2 n o6:=HR9.o
    by_cases hl:56320<=n/\n<=57343
    ·rw[if_pos hl]at HR10;exact(escape_low t w c n hb2 hs y1 e1 e2 e3 f98 f102 f110 f114 f116 (by omega) (by omega) (hq fun W=>HO.o W)).mono fun e w' ⟨he,hb⟩=>by subst he;exact EscPost.no HR10 hb
    ·rw[if_neg hl]at HR10;by_cases hh:n<55296\/57343<n
     ·rw[if_pos hh]at HR10;by_cases hh1:n<55296
      ·exact (escape_one1 t w c n hb2 hs y1 e1 e2 e3 f98 f102 f110 f114 f116 (by omega) (by omega) (hq fun W=>HO.o W)).mono fun e w' ⟨he,hb⟩=>by subst he;exact EscPost.mk HR10 rfl rfl hb
      ·exact (escape_one2 t w c n hb2 hs y1 e1 e2 e3 f98 f102 f110 f114 f116 (by omega) (by omega) (hq fun W=>HO.o W)).mono fun e w' ⟨he,hb⟩=>by subst he;exact EscPost.mk HR10 rfl rfl hb
     ·rw[if_neg hh]at HR10;cases o6 with
      |none=>exact(escape_half t w c n h6 hs y1 e1 e2 e3 f98 f102 f110 f114 f116 (by omega) (by omega) (hq fun W=>HO.o W) (hq fun W=>HSEC.o h6 W)).mono fun e w' ⟨he,hb⟩=>by subst he;exact EscPost.no HR10 hb
      |some m=>
       have hm:=HLT6.o m rfl;have HR11:R=if m<56320\/57343<m then none else some (65536+(n-55296)*1024+(m-56320),12):=HR10
       by_cases m1:m<56320
       ·rw[if_pos (.inl m1)]at HR11;exact(escape_bad1 t w c n m h6 hs y1 e1 e2 e3 f98 f102 f110 f114 f116 (by omega) (by omega) (by omega) (by omega) (hq fun W=>HO.o W) (hq fun W=>HSEC.o h6 W)).mono fun e w' ⟨he,hb⟩=>by subst he;exact EscPost.no HR11 hb
       ·by_cases m2:57343<m
        ·rw[if_pos (.inr m2)]at HR11;exact(escape_bad2 t w c n m h6 hs y1 e1 e2 e3 f98 f102 f110 f114 f116 (by omega) (by omega) (by omega) (by omega) (hq fun W=>HO.o W) (hq fun W=>HSEC.o h6 W)).mono fun e w' ⟨he,hb⟩=>by subst he;exact EscPost.no HR11 hb
        ·rw[if_neg (by omega)]at HR11;exact(escape_pair t w c n m h6 hs y1 e1 e2 e3 f98 f102 f110 f114 f116 (by omega) (by omega) (by omega) (by omega) (hq fun W=>HO.o W) (hq fun W=>HSEC.o h6 W)).mono fun e w' ⟨he,hb⟩=>by subst he;exact EscPost.mk HR11 (by omega) rfl hb
theorem partM_sub(s:ByteArray)(p:Nat)(hp:p<s.size):zf2 (s.extract p s.size) 0=zf2 s p:=by
 have hsz:(s.extract p s.size).size=s.size-p:=by rw[ByteArray.size_extract];omega
 have b0:byt (s.extract p s.size) 0=byt s p:=zQ9 s p s.size 0 (Nat.le_refl _) (by omega);have hd:Utf8.decode (s.extract p s.size) 0=Utf8.decode s p:=by
  have:=zx0 s p s.size 0 (Nat.le_refl _) (.inl rfl) (by omega);simpa using this
 have hbad:bad (s.extract p s.size) 0↔bad s p:=by unfold bad;rw[hd]
 have hesc:escM (s.extract p s.size) 0=escM s p:=by
  unfold escM;rw[hsz];by_cases h2:s.size<p+2
  ·rw[if_pos h2,if_pos (by omega)]
  ·have b1:byt (s.extract p s.size) (0+1)=byt s (p+1):=by rw[zQ9 s p s.size (0+1) (Nat.le_refl _) (by omega)]
   rw[if_neg h2,if_neg (by omega),b1];have hu:escU (s.extract p s.size) 0=escU s p:=by
    unfold escU;rw[uni_sub s p 0 (by omega),uni_sub s p (0+6) (by omega)];rfl
   rw[hu]
 unfold zf2;rw[b0,hesc,hd];by_cases hb:bad s p
 ·rw[if_pos hb,if_pos (hbad.2 hb)]
 ·rw[if_neg hb,if_neg (fun h=>hb (hbad.1 h))]
theorem uni_ascii {s:ByteArray} {p n:Nat} (h:uni s p=some n): ∀j,j<6->byt s (p+j)<128:=by
 unfold uni at h;split at h
 ·rename_i hh;obtain⟨_,h0,h1⟩:=hh;unfold hex4 at h;split at h
  ·rename_i x y z u q2 q3 q4 q5;have:=(zl9 q2).2;have:=(zl9 q3).2;have:=(zl9 q4).2;have:=(zl9 q5).2;intro j hj
   match j,hj with
   |0,_=>rw[Nat.add_zero];omega
   |1,_=>omega
   |2,_=>assumption
   |3,_=>assumption
   |4,_=>assumption
   |5,_=>assumption
   |j+6,hj=>omega
  ·cases h
 ·cases h
theorem escU_ascii {s:ByteArray} {p r n:Nat} (h:escU s p=some (r,n)): ∀j,j<n->byt s (p+j)<128:=by
 unfold escU at h;split at h
 ·cases h
 ·rename_i a ha;have h1:=uni_ascii ha;split at h
  ·cases h
  ·split at h
   ·injection h with h;injection h with h3 h4;subst h4;exact h1
   ·split at h
    ·cases h
    ·rename_i b hb;have h2:=uni_ascii hb;split at h
     ·cases h
     ·injection h with h;injection h with h3 h4;subst h4
      intro j hj;by_cases h6:j<6
      ·exact h1 j h6
      ·have:=h2 (j-6) (by omega);rwa [show p+6+(j-6)=p+j by omega]at this
theorem zM6 {s:ByteArray} {p r n:Nat} (h92:byt s p=92)(h:escM s p=some (r,n)): ∀j,j<n->byt s (p+j)<128:=by
 have two:byt s (p+1)<128->n=2-> ∀j,j<n->byt s (p+j)<128:=fun h1 hn j hj=>by
  subst hn
  match j,hj with
  |0,_=>rw[Nat.add_zero];omega
  |1,_=>exact h1
  |j+2,hj=>omega
 unfold escM at h;split at h
 ·cases h
 ·split at h
  ·rename_i hc;injection h with h;injection h with h3 h4;exact two (by omega) h4.symm
  ·repeat (split at h;(rename_i hc;injection h with h;injection h with h3 h4;exact two (by omega) h4.symm))
   exact escU_ascii h
theorem decN_same(n m b0 b1 b2 b3 c1 c2 c3:Nat)(hb: ¬((Lib.decodeN n b0 b1 b2 b3).1=65533/\(Lib.decodeN n b0 b1 b2 b3).2=1))(hm:(Lib.decodeN n b0 b1 b2 b3).2<=m)
 (e1:1<(Lib.decodeN n b0 b1 b2 b3).2->c1=b1) (e2:2<(Lib.decodeN n b0 b1 b2 b3).2->c2=b2) (e3:3<(Lib.decodeN n b0 b1 b2 b3).2->c3=b3):
 Lib.decodeN m b0 c1 c2 c3=Lib.decodeN n b0 b1 b2 b3:=by
 revert hb hm e1 e2 e3;unfold Lib.decodeN;by_cases h0:b0<128
 ·rw[if_pos h0,if_pos h0];intros;rfl
 ·rw[if_neg h0,if_neg h0];by_cases g2:b0/32=6/\(1<n/\b1/64=2)
  ·rw[if_pos g2];by_cases k2:b0%32*64+b1%64≥128
   ·rw[if_pos k2];intro hb hm e1 e2 e3;simp only at hm e1 e2 e3;obtain rfl:=e1 (by omega);rw[if_pos ⟨g2.1,by omega,g2.2.2⟩,if_pos k2]
   ·rw[if_neg k2];intro hb;simp at hb
  ·rw[if_neg g2];by_cases g3:b0/16=14/\(1<n/\b1/64=2)/\(2<n/\b2/64=2)
   ·rw[if_pos g3];split
    ·rename_i k3;intro hb hm e1 e2 e3;simp only at hm e1 e2 e3;obtain rfl:=e1 (by omega);obtain rfl:=e2 (by omega);rw[if_neg (by omega),if_pos ⟨g3.1,⟨by omega,g3.2.1.2⟩,by omega,g3.2.2.2⟩,if_pos k3]
    ·intro hb;simp at hb
   ·rw[if_neg g3];split
    ·rename_i g4;split
     ·rename_i k4;intro hb hm e1 e2 e3;simp only at hm e1 e2 e3;obtain rfl:=e1 (by omega);obtain rfl:=e2 (by omega);obtain rfl:=e3 (by omega);rw[if_neg (by omega),if_neg (by omega),if_pos ⟨g4.1,⟨by omega,g4.2.1.2⟩,⟨by omega,g4.2.2.1.2⟩,by omega,g4.2.2.2.2⟩,if_pos k4]
     ·intro hb;simp at hb
    ·intro hb;simp at hb
theorem dec_same(s t:ByteArray)(p q:Nat)(hb: ¬bad s p)(hq':q+wd s p<=t.size)(he: ∀j,j<wd s p->byt t (q+j)=byt s (p+j)):Utf8.decode t q=Utf8.decode s p:=by
 have h0:=he 0 (zi4 s p);have h1:=he 1;have h2:=he 2;have h3:=he 3;unfold bad at hb;unfold wd at h1 h2 h3 hq';rw[zk3]at hb h1 h2 h3 hq';rw[zk3 t,zk3 s,show byt t q=byt s p from h0];exact decN_same _ _ _ _ _ _ _ _ _ hb (by omega) h1 h2 h3
theorem zD7(r:Nat):(encB r).length<=4:=by
 unfold encB;rw[List.length_map];unfold Lib.encodeRuneZ
 repeat' split
 all_goals simp
theorem zm(l:List Nat)(r:Nat):zd (l++[r])=zd l++encB r:=by unfold zd;rw[List.flatMap_append];simp
def zx2(l:List Nat):Prop:= ∀r∈l,r<=1114111/\(r<55296\/57343<r)
theorem zF1(s:ByteArray): ∀(f p:Nat) (acc:List Nat),zx2 acc->zx2 (zc5 s f p acc).2.2/\(zc5 s f p acc).1<=s.size
 |0,p,acc,h=>⟨h,Nat.le_refl _⟩
 |f+1,p,acc,h=>by
  unfold zc5;by_cases hp:p<s.size
  ·rw[if_pos hp];by_cases h34:byt s p=34
   ·rw[if_pos h34];exact⟨h,hp⟩
   ·rw[if_neg h34];cases hpm:zf2 s p with
    |none=>exact⟨h,Nat.le_of_lt hp⟩
    |some x=>
     obtain⟨r,n⟩:=x;have hbd:=zn3 hp hpm;refine zF1 s f (p+n) (acc++[r]) fun x hx=> ?_
     rcases List.mem_append.1 hx with h1|h1
     ·exact h x h1
     ·rw[List.mem_singleton.1 h1];exact⟨hbd.1,hbd.2.2.2.2⟩
  ·rw[if_neg hp];exact⟨h,Nat.le_refl _⟩
theorem zQ4(r:Nat)(h:r<55296\/57344<=r/\r<=1114111):Utf8.encode (r:Int)=st (encB r):=by
 rw[zq6 r h];unfold encB;by_cases h1:r<128
 ·rw[if_pos h1,Lib.encodeRuneZ_one (by omega) (by omega)];rfl
 ·rw[if_neg h1];by_cases h2:r<2048
  ·rw[if_pos h2,Lib.encodeRuneZ_two (by omega) (by omega)];exact mk2 (by omega) (by omega)
  ·rw[if_neg h2];by_cases h3:r<65536
   ·rw[if_pos h3,Lib.encodeRuneZ_three (by omega)];exact mk3 (by omega) (by omega) (by omega)
   ·rw[if_neg h3,Lib.encodeRuneZ_four (by omega) (by omega)];exact mk4 (by omega) (by omega) (by omega) (by omega)
theorem zq9(a b:Bs):st a++st b=st (a++b):=by
 refine zo7 ?_;simp[st]
def zt8(u:Bs×Nat×Int)(w:World)(e:Ending)(w':World):Prop:=e= .returned (.tuple #[.string (st u.1),.int .i64 (u.2.1:Int),.int .i64 u.2.2])/\Below w.heap.size w w'
end Go.Proofs.YtkafjblfjdpdaaaGreatDoor
