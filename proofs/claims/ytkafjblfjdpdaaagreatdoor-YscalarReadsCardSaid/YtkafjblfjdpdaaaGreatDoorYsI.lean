/-
  PLAIN MATHEMATICS: texts of a line, gone through rune by rune.
  PLAIN MATHEMATICS: texts of a line, gone through byte by byte; what is bare, out of its tests.
  WALKS: yscalar.plain, yscalar.safe.
-/
import Derived.Test.YtkafjblfjdpdaaaGreatDoorYsC
set_option maxHeartbeats 4000000
set_option maxRecDepth 1000000
namespace Go.Proofs.YtkafjblfjdpdaaaGreatDoor
open Go.RowKit
theorem zI2(s:ByteArray)(p c:Nat)(hc:c<=128):(Utf8.decode s p).1<c↔byt s p<c:=by
 by_cases h:byt s p<128
 ·rw[zf4 s p h]
 ·have h2: ¬(Utf8.decode s p).1<128:=by
   intro h3;have hd:=zk3 s p;rw[hd]at h3;revert h3;unfold Lib.decodeN;rw[if_neg (by omega)]
   repeat' split
   all_goals (simp only;omega)
  omega
theorem zI3(s:ByteArray)(p c:Nat)(hc:c<128):(Utf8.decode s p).1=c↔byt s p=c:=by
 have h1:=zI2 s p c (by omega);have h2:=zI2 s p (c+1) (by omega);omega
theorem zg3(s:ByteArray)(p:Nat)(h:p<s.size):s.data.toList.drop p=UInt8.ofNat (byt s p)::s.data.toList.drop (p+1):=by
 have hl:p<s.data.toList.length:=by rw[Array.length_toList];exact h
 rw[List.drop_eq_getElem_cons hl,←bytT s p hl,UInt8.ofNat_toNat]
theorem zj3(s:ByteArray)(p:Nat)(h: ¬p<s.size):s.data.toList.drop p=[]:=List.drop_eq_nil_of_le (by rw[Array.length_toList];show s.size<=p;omega)
def zl0(s:ByteArray)(p:Nat):Bool:=zf8 (s.data.toList.drop p)
theorem zL4 {s:ByteArray} {p:Nat} (h: ¬p<s.size):zl0 s p=true:=by unfold zl0;rw[zj3 s p h];rfl
theorem zu8 {s:ByteArray} {p:Nat} (h:p<s.size)(hb:byt s p<32\/byt s p=127):zl0 s p=false:=by
 unfold zl0 zf8;rw[zg3 s p h,List.all_cons,Bool.and_eq_false_iff];left;rw[Bool.and_eq_false_iff,ofNat_toNat (zd3 s p)];rcases hb with hb|hb
 ·exact .inl (decide_eq_false (by omega))
 ·right;refine decide_eq_false (fun hn=>hn ?_);rw[hb];rfl
theorem high_plain {l:Bs} (h: ∀c∈l,128<=c.toNat):zf8 l=true:=List.all_eq_true.2 (fun c hc=>by
 have:=h c hc;simp only[Bool.and_eq_true,decide_eq_true_eq];exact⟨by omega,by rintro rfl;exact absurd this (by decide)⟩)
theorem plain_app(a b:Bs):zf8 (a++b)=(zf8 a&&zf8 b):=List.all_append
theorem plainP_step {s:ByteArray} {p:Nat} (h:p<s.size)(h1: ¬byt s p<32)(h2:byt s p≠127):zl0 s p=zl0 s (p+wd s p):=by
 unfold zl0;rw[zt4 s p,plain_app];have e:zf8 (zd2 s p)=true:=by
  by_cases hl:byt s p<128
  ·rw[zq s p h hl];unfold zf8;rw[List.all_cons,ofNat_toNat (zd3 s p),decide_eq_true (by omega),decide_eq_true (show UInt8.ofNat (byt s p)≠127 from fun e=>h2 (by
    have:=congrArg UInt8.toNat e;rwa [ofNat_toNat (zd3 s p)]at this))]
   rfl
  ·exact high_plain (zo0 s p h (by omega))
 rw[e,Bool.true_and]
theorem mid_congr {p q:UInt8} (h1:p=58↔q=58)(h2:p=32↔q=32): ∀l:Bs,midL p l=midL q l
 | []=>rfl
 |c::l=>by
  have e1:(p==58)=(q==58):=by rw[Bool.eq_iff_iff];simpa using h1
  have e2:(p==32)=(q==32):=by rw[Bool.eq_iff_iff];simpa using h2
  unfold midL;rw[e1,e2]
theorem mid_high: ∀ {l:Bs} (p q:UInt8) (r:Bs),l≠ []->(∀c∈l,128<=c.toNat)->128<=q.toNat->midL p (l++r)=midL q r
 | [],_,_,_,h,_,_=>absurd rfl h
 |c::l,p,q,r,_,h,hq=>by
  have hc:=h c (by simp);have e1:(c==32)=false:=beq_eq_false_iff_ne.2 (by rintro rfl;exact absurd hc (by decide));have e2:(c==35)=false:=beq_eq_false_iff_ne.2 (by rintro rfl;exact absurd hc (by decide));rw[List.cons_append,midL,e1,e2,Bool.and_false,Bool.and_false];simp only[Bool.not_false,Bool.and_self,Bool.true_and];cases l with
  |nil=>exact mid_congr ⟨fun e=>by rw[e]at hc;exact absurd hc (by decide),fun e=>by rw[e]at hq;exact absurd hq (by decide)⟩ ⟨fun e=>by rw[e]at hc;exact absurd hc (by decide),fun e=>by rw[e]at hq;exact absurd hq (by decide)⟩ r
  |cons d l=>exact mid_high c q r (by simp) (fun x hx=>h x (List.mem_cons_of_mem _ hx)) hq
def zv5(last:Nat):UInt8:=if last<128 then UInt8.ofNat last else 128
def midR(s:ByteArray)(p last:Nat):Bool:=midL (zv5 last) (s.data.toList.drop p)
theorem zP8 {last n:Nat} (hn:n<128):zv5 last=UInt8.ofNat n↔last=n:=by
 unfold zv5;constructor
 ·intro h;split at h
  ·have:=congrArg UInt8.toNat h;rwa [ofNat_toNat (by omega),ofNat_toNat (by omega)]at this
  ·have:=congrArg UInt8.toNat h;rw[ofNat_toNat (by omega)]at this;have e:(128:UInt8).toNat=128:=rfl;omega
 ·rintro rfl;rw[if_pos hn]
theorem midR_end {s:ByteArray} {p last:Nat} (h: ¬p<s.size):midR s p last=true:=by unfold midR;rw[zj3 s p h];rfl
theorem midR_bad {s:ByteArray} {p last:Nat} (h:p<s.size)(hb:last=58/\byt s p=32\/last=32/\byt s p=35):midR s p last=false:=by
 unfold midR;rw[zg3 s p h];rcases hb with ⟨rfl,e⟩|⟨rfl,e⟩
 ·rw[e];rfl
 ·rw[e];rfl
theorem zG9 {s:ByteArray} {p last:Nat} (h:p<s.size)(hb: ¬(last=58/\byt s p=32\/last=32/\byt s p=35)):midR s p last=midR s (p+wd s p) (Utf8.decode s p).1:=by
 unfold midR;by_cases hl:byt s p<128
 ·have e1:(Utf8.decode s p).1=byt s p:=by rw[zf4 s p hl]
  rw[zg3 s p h,zK1 s p hl,e1];have e2:zv5 (byt s p)=UInt8.ofNat (byt s p):=by unfold zv5;rw[if_pos hl]
  rw[e2,midL];have t1:(zv5 last==58&&UInt8.ofNat (byt s p)==32)=false:=by
   rw[Bool.and_eq_false_iff];by_cases h1:last=58
   ·right;refine beq_eq_false_iff_ne.2 (fun e=>hb (.inl ⟨h1,?_⟩));have:=congrArg UInt8.toNat e;rwa [ofNat_toNat (by omega)]at this
   ·left;exact beq_eq_false_iff_ne.2 (fun e=>h1 ((zP8 (n:=58) (by omega)).1 e))
  have t2:(zv5 last==32&&UInt8.ofNat (byt s p)==35)=false:=by
   rw[Bool.and_eq_false_iff];by_cases h1:last=32
   ·right;refine beq_eq_false_iff_ne.2 (fun e=>hb (.inr ⟨h1,?_⟩));have:=congrArg UInt8.toNat e;rwa [ofNat_toNat (by omega)]at this
   ·left;exact beq_eq_false_iff_ne.2 (fun e=>h1 ((zP8 (n:=32) (by omega)).1 e))
  rw[t1,t2];rfl
 ·have hd: ¬(Utf8.decode s p).1<128:=fun e=>hl ((zI2 s p 128 (by omega)).1 e)
  have e2:zv5 (Utf8.decode s p).1=128:=by unfold zv5;rw[if_neg hd]
  rw[zt4 s p,e2];refine mid_high _ _ _ (fun e=> ?_) (zo0 s p h (by omega)) (by decide);have h1:=zi9 s p h;have h2:=zi4 s p;rw[e,List.length_nil]at h1;omega
theorem safe_congr {p q:UInt8} (h2:p=32↔q=32)(l:Bs):zn9 p l=zn9 q l:=by
 cases l with
 |nil=>rfl
 |cons c r=>
  unfold zn9;by_cases h1:p=32
  ·rw[h1,h2.1 h1]
  ·rw[if_neg (show¬(c=35/\p=32) from fun e=>h1 e.2),if_neg (show¬(c=35/\q=32) from fun e=>h1 (h2.2 e.2))]
def zw7(s:ByteArray)(p last:Nat):Bs:=zn9 (zv5 last) (s.data.toList.drop p)
theorem safeR_end {s:ByteArray} {p last:Nat} (h: ¬p<s.size):zw7 s p last=[]:=by unfold zw7;rw[zj3 s p h];rfl
theorem safeR_del {s:ByteArray} {p last:Nat} (h:p<s.size)(hb:byt s p=127):zw7 s p last=[92,117,48,48,55,102]++zw7 s (p+wd s p) (Utf8.decode s p).1:=by
 unfold zw7;rw[zg3 s p h,zK1 s p (by omega),zf4 s p (by omega),hb];rfl
theorem safeR_hash {s:ByteArray} {p last:Nat} (h:p<s.size)(hb:byt s p=35)(hl:last=32):zw7 s p last=[92,117,48,48,50,51]++zw7 s (p+wd s p) (Utf8.decode s p).1:=by
 unfold zw7;rw[zg3 s p h,zK1 s p (by omega),zf4 s p (by omega),hb,hl];rfl
theorem safeR_rune {s:ByteArray} {p last:Nat} (h:p<s.size)(h1:byt s p≠127)(h2: ¬(byt s p=35/\last=32)):zw7 s p last=zd2 s p++zw7 s (p+wd s p) (Utf8.decode s p).1:=by
 unfold zw7;by_cases hl:byt s p<128
 ·rw[zg3 s p h,zK1 s p hl,zf4 s p hl,zq s p h hl];have e2:zv5 (byt s p)=UInt8.ofNat (byt s p):=by unfold zv5;rw[if_pos hl]
  have n1:UInt8.ofNat (byt s p)≠127:=fun e=>h1 (by
   have:=congrArg UInt8.toNat e;rwa [ofNat_toNat (by omega)]at this)
  have n2: ¬(UInt8.ofNat (byt s p)=35/\zv5 last=32):=fun e=>h2 ⟨by
   have:=congrArg UInt8.toNat e.1;rwa [ofNat_toNat (by omega)]at this,(zP8 (n:=32) (by omega)).1 e.2⟩
  simp only;rw[e2,zn9,if_neg n1,if_neg n2]
 ·have hh:=zo0 s p h (by omega);have hd: ¬(Utf8.decode s p).1<128:=fun e=>hl ((zI2 s p 128 (by omega)).1 e)
  have e2:zv5 (Utf8.decode s p).1=128:=by unfold zv5;rw[if_neg hd]
  rw[zt4 s p,safe_app,safe_no _ (fun c hc=>by
   have:=hh c hc;constructor
   ·rintro rfl;exact absurd this (by decide)
   ·rintro rfl;exact absurd this (by decide)),e2]
  congr 1
  refine safe_congr ?_ _;have hm:zC7 (zv5 last) (zd2 s p)∈zd2 s p:=last_in _ (fun e=>by
   have h1:=zi9 s p h;have h2:=zi4 s p;rw[e,List.length_nil]at h1;omega)
  have:=hh _ hm;exact⟨fun e=>by rw[e]at this;exact absurd this (by decide),fun e=>absurd e (by decide)⟩
theorem plainI_step {s:ByteArray} {p:Nat} (h:p<s.size)(h1: ¬byt s p<32)(h2:byt s p≠127):zl0 s p=zl0 s (p+1):=by
 unfold zl0;rw[zg3 s p h];unfold zf8;rw[List.all_cons,ofNat_toNat (zd3 s p),decide_eq_true (by omega),decide_eq_true (show UInt8.ofNat (byt s p)≠127 from fun e=>h2 (by
  have:=congrArg UInt8.toNat e;rwa [ofNat_toNat (zd3 s p)]at this))]
 rfl
theorem zd5 {n m:Nat} (hn:n<256)(hm:m<256):UInt8.ofNat n=UInt8.ofNat m↔n=m:=by
 constructor
 ·intro e;have:=congrArg UInt8.toNat e;rwa [ofNat_toNat hn,ofNat_toNat hm]at this
 ·rintro rfl;rfl
def midI(s:ByteArray)(p:Nat):Bool:=midL (UInt8.ofNat (byt s p)) (s.data.toList.drop (p+1))
theorem midI_end {s:ByteArray} {p:Nat} (h: ¬p+1<s.size):midI s p=true:=by unfold midI;rw[zj3 s (p+1) h];rfl
theorem zD6 {s:ByteArray} {p:Nat} (h:p+1<s.size)(hb:byt s p=58/\byt s (p+1)=32\/byt s p=32/\byt s (p+1)=35):midI s p=false:=by
 unfold midI;rw[zg3 s (p+1) h];rcases hb with ⟨e1,e2⟩|⟨e1,e2⟩
 ·rw[e1,e2];rfl
 ·rw[e1,e2];rfl
theorem zq2 {s:ByteArray} {p:Nat} (h:p+1<s.size)(hb: ¬(byt s p=58/\byt s (p+1)=32\/byt s p=32/\byt s (p+1)=35)):midI s p=midI s (p+1):=by
 unfold midI;rw[zg3 s (p+1) h,midL];have l1:=zd3 s p;have l2:=zd3 s (p+1);have t1:(UInt8.ofNat (byt s p)==58&&UInt8.ofNat (byt s (p+1))==32)=false:=by
  rw[Bool.and_eq_false_iff];by_cases h1:byt s p=58
  ·exact .inr (beq_eq_false_iff_ne.2 (fun e=>hb (.inl ⟨h1,(zd5 (m:=32) l2 (by omega)).1 e⟩)))
  ·exact .inl (beq_eq_false_iff_ne.2 (fun e=>h1 ((zd5 (m:=58) l1 (by omega)).1 e)))
 have t2:(UInt8.ofNat (byt s p)==32&&UInt8.ofNat (byt s (p+1))==35)=false:=by
  rw[Bool.and_eq_false_iff];by_cases h1:byt s p=32
  ·exact .inr (beq_eq_false_iff_ne.2 (fun e=>hb (.inr ⟨h1,(zd5 (m:=35) l2 (by omega)).1 e⟩)))
  ·exact .inl (beq_eq_false_iff_ne.2 (fun e=>h1 ((zd5 (m:=32) l1 (by omega)).1 e)))
 rw[t1,t2];rfl
theorem midI_all {s:ByteArray} (h:0<s.size):midL 0 s.data.toList=midI s 0:=by
 have e:=zg3 s 0 h;rw[List.drop_zero]at e;rw[e,midL];unfold midI;rw[show ((0:UInt8)==58)=false by decide,show((0:UInt8)==32)=false by decide];simp only[Bool.false_and,Bool.not_false,Bool.and_self,Bool.true_and]
theorem last_byt {s:ByteArray} (h:0<s.size):zC7 0 s.data.toList=UInt8.ofNat (byt s (s.size-1)):=by
 have hl:s.data.toList.length=s.size:=Array.length_toList;have key: ∀(l:Bs) (p:UInt8) (h:0<l.length),zC7 p l=l[l.length-1]'(by omega):=fun l=>by
  induction l with
  |nil=>intro p h;exact absurd h (by simp)
  |cons c l ih=>
   intro p _;cases l with
   |nil=>rfl
   |cons d l=>
    have:=ih c (by simp);show zC7 c (d::l)=_;rw[this];rfl
 rw[key _ 0 (by omega)];refine UInt8.toNat_inj.1 ?_;rw[bytT s _ (by omega),ofNat_toNat (zd3 s _),hl]
def zv4(s:ByteArray):Bool:=signsL.contains (UInt8.ofNat (byt s 0))
def zx1(s:ByteArray):Bool:=decide (byt s 0=45)&&(decide (s.size=1)||decide (byt s 1=32))
theorem headY_byt {s:ByteArray} (h:0<s.size):headL s.data.toList=(!zv4 s&&!zx1 s):=by
 have e:=zg3 s 0 h;rw[List.drop_zero]at e;have hl:s.data.toList.length=s.size:=Array.length_toList;rw[e];unfold zv4 zx1;show(!signsL.contains (UInt8.ofNat (byt s 0))&&!(UInt8.ofNat (byt s 0)==45&&(decide (s.data.toList.drop (0+1)=[])||(s.data.toList.drop (0+1)).head?==some 32)))=_;have l0:=zd3 s 0;have e1:(UInt8.ofNat (byt s 0)==45)=decide (byt s 0=45):=by
  rw[Bool.eq_iff_iff,beq_iff_eq,decide_eq_true_eq];exact zd5 (m:=45) l0 (by omega)
 rw[e1]
 congr 3
 by_cases h1:1<s.size
 ·rw[zg3 s (0+1) h1];have e2:((UInt8.ofNat (byt s (0+1))::s.data.toList.drop (0+1+1)).head?==some (32:UInt8))=decide (byt s 1=32):=by
   rw[Bool.eq_iff_iff,beq_iff_eq,decide_eq_true_eq,List.head?_cons,Option.some.injEq];exact zd5 (m:=32) (zd3 s _) (by omega)
  rw[e2,decide_eq_false (by simp),decide_eq_false (show¬s.size=1 by omega)]
 ·rw[zj3 s (0+1) (by omega),decide_eq_true rfl,decide_eq_true (show s.size=1 by omega)];rfl
theorem bare_byt(s:ByteArray):zh9 s.data.toList=((valid s).2&&(decide (0<s.size)&&((!zv4 s&&!zx1 s)&&(decide (byt s (s.size-1)≠32/\byt s (s.size-1)≠58)&&(zl0 s 0&&midI s 0))))):=by
 have e:st s.data.toList=s:=zo7 (by simp);unfold zh9;rw[e];by_cases h:0<s.size
 ·rw[decide_eq_true h,headY_byt h,last_byt h,←midI_all h,Bool.true_and];have l0:=zd3 s (s.size-1);have e2:decide (UInt8.ofNat (byt s (s.size-1))≠32/\UInt8.ofNat (byt s (s.size-1))≠58)=decide (byt s (s.size-1)≠32/\byt s (s.size-1)≠58):=by
   rw[Bool.eq_iff_iff,decide_eq_true_eq,decide_eq_true_eq];have a1:=zd5 (m:=32) l0 (by omega);have a2:=zd5 (m:=58) l0 (by omega);exact⟨fun h=>⟨fun e=>h.1 (a1.2 e),fun e=>h.2 (a2.2 e)⟩,fun h=>⟨fun e=>h.1 (a1.1 e),fun e=>h.2 (a2.1 e)⟩⟩
  rw[e2];rfl
 ·rw[decide_eq_false h];have e3:s.data.toList=[]:=by
   have:=zj3 s 0 h;rwa [List.drop_zero]at this
  rw[e3];simp[headL]
theorem zJ9(s:ByteArray)(w:World)(_hs:s.size<=maxLen):
 Calls Tryz.prog 40 #[.string s] w fun e w'=>e= .returned (.bool (zf8 s.data.toList))/\Below w.heap.size w w':=by
 have HV:Hq (zf8 s.data.toList=zl0 s 0):=hq rfl;generalize zf8 s.data.toList=V at *;go_enter Tryz.func40,Tryz.ntmps40
 go_wp2_with fail
 go_loopw [] (fun wr=> ∃pos:Nat,pos<=s.size/\wr.heap[w.heap.size]?=some (.stringIter s pos)/\Below w.heap.size w wr/\Hq (V=zl0 s pos)) (fun wr=>s.size-wr.iterPos w.heap.size)
 case atStart=>exact⟨0,Nat.zero_le _,World.iter_heap w s 0,(Below.refl _ _).alloc (Nat.le_refl _) _,HV⟩
 case round=>
  obtain⟨pos,hps,hit,hb,hv⟩:=hrel;clear HV;by_cases hp:pos<s.size
  ·have hnx: ∀ty,(Instr.next (.pointer (some ⟨w.heap.size,0,none⟩)) true ty).run Tryz.prog wr=_:=fun ty=>Lib.run_next_any_at wr w.heap.size s pos ty hit hp
   have hwp:=zi4 s pos;have hwl:=zp8 s pos hp;have hit2:=Lib.iterAt_heap wr w.heap.size s pos (pos+(Utf8.decode s pos).2) hit;have hb2:=Lib.below_iterAt hb (k:=w.heap.size) (Nat.le_refl _) s (pos+(Utf8.decode s pos).2);have k1:=zI2 s pos 32 (by omega);have k2:=zI3 s pos 127 (by omega);have HB2:=hq hb2;have HIT:=hq hit2;have HIT0:=hq hit;clear hit2 hb2 hit;by_cases h32:byt s pos<32
   ·have HN:Hq (V=false):=hq (by rw[hv.o,zu8 hp (.inl h32)]);have e1:(((Utf8.decode s pos).1:Nat):Int)<32:=by have:=k1.2 h32;omega
    clear hv k1 k2 h32;go_wp2_with fail
    go_ret
    exact⟨by rw[HN.o];rfl,HB2.o⟩
   ·have e1: ¬(((Utf8.decode s pos).1:Nat):Int)<32:=by have:=mt k1.1 h32;omega
    by_cases h127:byt s pos=127
    ·have HN:Hq (V=false):=hq (by rw[hv.o,zu8 hp (.inr h127)]);have e2:((((Utf8.decode s pos).1:Nat):Int)==127)=true:=by rw[k2.2 h127];rfl
     clear hv k1 k2 h32 h127;go_wp2_with fail
     go_ret
     exact⟨by rw[HN.o];rfl,HB2.o⟩
    ·have e2:((((Utf8.decode s pos).1:Nat):Int)==127)=false:=beq_eq_false_iff_ne.2 (by have:=mt k2.1 h127;omega);have HN:Hq (V=zl0 s (pos+wd s pos)):=hq (by rw[hv.o,plainP_step hp h32 h127]);have hm1:Hq ((wr.iterAt w.heap.size s (pos+(Utf8.decode s pos).2)).iterPos w.heap.size=pos+wd s pos):=hq (by simp only[World.iterPos,HIT.o];rfl);have hm0:Hq (wr.iterPos w.heap.size=pos):=hq (by simp only[World.iterPos,HIT0.o]);clear hv k1 k2 h32 h127;go_wp2_with fail
     go_roundw
     case rel=>exact⟨pos+wd s pos,hwl,HIT.o,HB2.o,HN⟩
     case measure=>rw[hm1.o,hm0.o];omega
  ·have hnx: ∀ty,(Instr.next (.pointer (some ⟨w.heap.size,0,none⟩)) true ty).run Tryz.prog wr=_:=fun ty=>Lib.run_next_end_at wr w.heap.size s pos ty hit hp
   have HN:Hq (V=true):=hq (by rw[hv.o,zL4 hp]);clear hv;go_wp2_with fail
   go_ret
   exact⟨by rw[HN.o];rfl,hb⟩
theorem ysafe_any(s:ByteArray)(w:World)(hvd:(valid s).2=true)(hs:s.size<=17592186044416):
 Calls Tryz.prog 49 #[.string s] w fun e w'=>e= .returned (.string (st (zn9 0 s.data.toList)))/\Below w.heap.size w w':=by
 have HV:Hq (zn9 0 s.data.toList=[]++zw7 s 0 0):=hq rfl;have HVD:Hq ((vld s s.size 0).2=true):=hq hvd;generalize zn9 0 s.data.toList=V at *;clear hvd;have hbd:Bld w.heap.size w.heap.size [] (w.alloc (.cells #[.pointer none,.slice none 0 0] 98)):=Lib.IsBuilderF.of (Lib.fresh_isBuilder _ _ _);have hbI:=Lib.IsBuilderF.alloc hbd (.stringIter s 0);have HBI:Hq (Bld w.heap.size w.heap.size [] ((w.alloc (.cells #[.pointer none,.slice none 0 0] 98)).iter s 0)):=hq hbI;have hb0:=za0 w (.cells #[.pointer none,.slice none 0 0] 98);have hbI2:Below w.heap.size w ((w.alloc (.cells #[.pointer none,.slice none 0 0] 98)).iter s 0):=hb0.alloc (by simp) _;have hit0:=World.iter_heap (w.alloc (.cells #[.pointer none,.slice none 0 0] 98)) s 0;rw[World.size_alloc]at hit0;have HB0:=hq hbI2;have HIT0:=hq hit0;clear hbd hbI hbI2 hb0 hit0;go_enter Tryz.func49,Tryz.ntmps49
 go_wp2_with fail
 go_loopw [4] (fun h wr=> ∃(pos f last:Nat) (acc:Bs),pos<=s.size/\h= .int .i32 (last:Int)/\wr.heap[w.heap.size+1]?=some (.stringIter s pos)/\Hq (Bld w.heap.size w.heap.size acc wr)/\Below w.heap.size w wr/\Hq (V=acc++zw7 s pos last)/\Hq ((vld s f pos).2=true)/\s.size<=pos+f/\acc.length<=6*pos) (fun _ wr=>s.size-wr.iterPos (w.heap.size+1))
 case atStart=>exact⟨0,s.size,0,[],Nat.zero_le _,rfl,HIT0.o,HBI,HB0.o,HV,HVD,by omega,Nat.zero_le _⟩
 case round=>
  obtain⟨pos,f,last,acc,hps,rfl,hit,hbd,hb,hv,hvd,hf,hal⟩:=hrel;clear HV HBI HB0 HIT0 HVD;have hlt:w.heap.size+1<wr.heap.size:=(Array.getElem?_eq_some_iff.1 hit).1;by_cases hp:pos<s.size
  ·have hnx: ∀ty,(Instr.next (.pointer (some ⟨w.heap.size+1,0,none⟩)) true ty).run Tryz.prog wr=_:=fun ty=>Lib.run_next_any_at wr (w.heap.size+1) s pos ty hit hp
   obtain⟨f,rfl⟩: ∃g,f=g+1:=⟨f-1,by omega⟩;have hnb: ¬bad s pos:=fun h=>by
    have:=hvd.o;rw[vld_bad s f pos hp h]at this;cases this
   have HVN:Hq ((vld s f (pos+wd s pos)).2=true):=hq (by rw[←zD s f pos hp hnb];exact hvd.o);have hwp:=zi4 s pos;have hwl:=zp8 s pos hp;have hit2:=Lib.iterAt_heap wr (w.heap.size+1) s pos (pos+(Utf8.decode s pos).2) hit;have hb2:=Lib.below_iterAt hb (k:=w.heap.size+1) (by omega) s (pos+(Utf8.decode s pos).2);have hbd2:Bld w.heap.size w.heap.size acc (wr.iterAt (w.heap.size+1) s (pos+(Utf8.decode s pos).2)):=Lib.IsBuilderF.iterAt hbd.o hit _;have hsz2:=Lib.iterAt_size wr (w.heap.size+1) s (pos+(Utf8.decode s pos).2);have hBw:w.heap.size<=(wr.iterAt (w.heap.size+1) s (pos+(Utf8.decode s pos).2)).heap.size:=by rw[hsz2];omega
   have k2:=zI3 s pos 127 (by omega);have k3:=zI3 s pos 35 (by omega);have HB2:=hq hb2;have HIT:Hq ((wr.iterAt (w.heap.size+1) s (pos+(Utf8.decode s pos).2)).heap[w.heap.size+1]?=some (.stringIter s (pos+wd s pos))):=hq hit2;have HBD2:=hq hbd2;have HBW:=hq hBw;have hm0:Hq (wr.iterPos (w.heap.size+1)=pos):=hq (by simp only[World.iterPos,hit]);clear hit2 hb2 hit hbd hbd2 hsz2 hBw hvd;have fin: ∀(t:Bs) (w3:World),t.length<=6*wd s pos->V=acc++(t++zw7 s (pos+wd s pos) (Utf8.decode s pos).1)->Wrote w.heap.size w.heap.size (acc++t) (wr.iterAt (w.heap.size+1) s (pos+(Utf8.decode s pos).2)) w3->
    (∃(pos' f last':Nat) (acc:Bs),pos'<=s.size/\(.int .i32 (((Utf8.decode s pos).1:Nat):Int):Value)= .int .i32 (last':Int)/\w3.heap[w.heap.size+1]?=some (.stringIter s pos')/\Hq (Bld w.heap.size w.heap.size acc w3)/\Below w.heap.size w w3/\Hq (V=acc++zw7 s pos' last')/\Hq ((vld s f pos').2=true)/\s.size<=pos'+f/\acc.length<=6*pos')/\
    s.size-w3.iterPos (w.heap.size+1)<s.size-wr.iterPos (w.heap.size+1):=fun t w3 ht hV h3=>by
    have hit4:=Lib.OthersKept.iter h3.2.2 HIT.o (by omega);have hm1:w3.iterPos (w.heap.size+1)=pos+wd s pos:=by simp only[World.iterPos,hit4]
    refine⟨⟨pos+wd s pos,f,_,acc++t,hwl,rfl,hit4,hq h3.1,HB2.o.trans h3.2.1,hq (by rw[hV,List.append_assoc]),HVN,by omega,by rw[List.length_append];omega⟩,?_⟩;rw[hm1,hm0.o];omega
   have FIN:=hq fin;clear fin;by_cases h127:byt s pos=127
   ·have e1:((((Utf8.decode s pos).1:Nat):Int)==127)=true:=by rw[k2.2 h127];rfl
    have HN:=hq (hv.o.trans (congrArg (acc++ ·) (safeR_del (last:=last) hp h127)));have HW:Hq (Calls Tryz.prog 91 #[.pointer (some ⟨w.heap.size,0,none⟩),.string ⟨#[92,117,48,48,55,102]⟩] _ _):=hq (wstring w.heap.size w.heap.size acc [92,117,48,48,55,102] _ HBD2.o (by simp only[List.length_cons,List.length_nil];omega) HBW.o);clear hv k2 k3 h127;go_wp2_with fail
    refine HW.o.mono ?_;rintro e w3 ⟨⟨nn,rfl⟩,h3⟩;have HR:=hq (FIN.o _ w3 (by simp only[List.length_cons,List.length_nil];omega) HN.o h3);clear h3 HW FIN HN;go_wp2_with fail
    go_roundw
    case rel=>obtain⟨⟨a,f,b,c,d⟩,_⟩:=HR.o;exact⟨a,f,b,c,d⟩
    case measure=>exact HR.o.2
   ·have e1:((((Utf8.decode s pos).1:Nat):Int)==127)=false:=beq_eq_false_iff_ne.2 (by have:=mt k2.1 h127;omega);by_cases h35:byt s pos=35/\last=32
    ·have e2:((((Utf8.decode s pos).1:Nat):Int)==35)=true:=by rw[k3.2 h35.1];rfl
     have e3:((last:Int)==32)=true:=by rw[h35.2];rfl
     have HN:=hq (hv.o.trans (congrArg (acc++ ·) (safeR_hash (last:=last) hp h35.1 h35.2)));have HW:Hq (Calls Tryz.prog 91 #[.pointer (some ⟨w.heap.size,0,none⟩),.string ⟨#[92,117,48,48,50,51]⟩] _ _):=hq (wstring w.heap.size w.heap.size acc [92,117,48,48,50,51] _ HBD2.o (by simp only[List.length_cons,List.length_nil];omega) HBW.o);clear hv k2 k3 h127 h35;go_wp2_with fail
     refine HW.o.mono ?_;rintro e w3 ⟨⟨nn,rfl⟩,h3⟩;have HR:=hq (FIN.o _ w3 (by simp only[List.length_cons,List.length_nil];omega) HN.o h3);clear h3 HW FIN HN;go_wp2_with fail
     go_roundw
     case rel=>obtain⟨⟨a,f,b,c,d⟩,_⟩:=HR.o;exact⟨a,f,b,c,d⟩
     case measure=>exact HR.o.2
    ·have HN:=hq (hv.o.trans (congrArg (acc++ ·) (safeR_rune (last:=last) hp h127 h35)));have hrc:=zm7 s pos hp hnb;have hlr:(zd2 s pos).length=wd s pos:=zi9 s _ hp;have hfi:=zv0 s pos hnb;have hcb:-2147483648<=(((Utf8.decode s pos).1:Nat):Int)/\(((Utf8.decode s pos).1:Nat):Int)<=2147483647:=by omega
     have HWR:=hq (wrune w.heap.size w.heap.size acc (zd2 s pos) (((Utf8.decode s pos).1:Nat):Int) _ hcb.1 hcb.2 hrc HBD2.o (by omega) HBW.o);have HLR:=hq hlr;by_cases h35':byt s pos=35
     ·have e2:((((Utf8.decode s pos).1:Nat):Int)==35)=true:=by rw[k3.2 h35'];rfl
      have e3:((last:Int)==32)=false:=beq_eq_false_iff_ne.2 (fun e=>h35 ⟨h35',by omega⟩);clear hv k2 k3 h127 h35 hrc hlr hfi hcb h35';go_wp2_with fail
      refine HWR.o.mono ?_;rintro e w3 ⟨⟨nn,rfl⟩,h3⟩;have HR:=hq (FIN.o _ w3 (by rw[HLR.o];omega) HN.o h3);clear h3 HWR FIN HN;go_wp2_with fail
      go_roundw
      case rel=>obtain⟨⟨a,f,b,c,d⟩,_⟩:=HR.o;exact⟨a,f,b,c,d⟩
      case measure=>exact HR.o.2
     ·have e2:((((Utf8.decode s pos).1:Nat):Int)==35)=false:=beq_eq_false_iff_ne.2 (by have:=mt k3.1 h35';omega);clear hv k2 k3 h127 h35 hrc hlr hfi hcb h35';go_wp2_with fail
      refine HWR.o.mono ?_;rintro e w3 ⟨⟨nn,rfl⟩,h3⟩;have HR:=hq (FIN.o _ w3 (by rw[HLR.o];omega) HN.o h3);clear h3 HWR FIN HN;go_wp2_with fail
      go_roundw
      case rel=>obtain⟨⟨a,f,b,c,d⟩,_⟩:=HR.o;exact⟨a,f,b,c,d⟩
      case measure=>exact HR.o.2
  ·have hnx: ∀ty,(Instr.next (.pointer (some ⟨w.heap.size+1,0,none⟩)) true ty).run Tryz.prog wr=_:=fun ty=>Lib.run_next_end_at wr (w.heap.size+1) s pos ty hit hp
   have HN:Hq (V=acc):=hq (by rw[hv.o,safeR_end hp,List.append_nil]);have HS:=hq (Tryz.Builder_String_any_k w.heap.size w.heap.size acc wr hbd.o (by omega));clear hv hbd;go_wp2_with fail
   refine HS.o.mono ?_;rintro e w4 ⟨rfl,_,h5,_⟩;have hb6:Below w.heap.size w w4:=hb.trans h5;clear h5 HS;go_wp2_with fail
   go_ret
   exact⟨by rw[HN.o];rfl,hb6⟩
end Go.Proofs.YtkafjblfjdpdaaaGreatDoor
