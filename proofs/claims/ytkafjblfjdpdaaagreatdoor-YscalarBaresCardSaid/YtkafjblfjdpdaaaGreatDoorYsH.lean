/-
  PLAIN MATHEMATICS: texts of a line, gone through rune by rune.
  PLAIN MATHEMATICS: texts of a line, gone through byte by byte; what is bare, out of its tests.
-/
import Derived.Test.YtkafjblfjdpdaaaGreatDoorYsC
namespace Go.Proofs.YtkafjblfjdpdaaaGreatDoor
open Go.RowKit
theorem dec_ltY(s:ByteArray)(p c:Nat)(hc:c≤128):(Utf8.decode s p).1<c↔byt s p<c:=by
 by_cases h:byt s p<128
 ·rw[dec_low s p h]
 ·have h2: ¬(Utf8.decode s p).1<128:=by
   intro h3
   have hd:=dec_eq s p
   rw[hd]at h3
   revert h3
   unfold Lib.decodeN
   rw[if_neg (by omega)]
   repeat' split
   all_goals (simp only;omega)
  omega
theorem dec_isY(s:ByteArray)(p c:Nat)(hc:c<128):(Utf8.decode s p).1=c↔byt s p=c:=by
 have h1:=dec_ltY s p c (by omega)
 have h2:=dec_ltY s p (c+1) (by omega)
 omega
theorem drop_at(s:ByteArray)(p:Nat)(h:p<s.size):s.data.toList.drop p=UInt8.ofNat (byt s p)::s.data.toList.drop (p+1):=by
 have hl:p<s.data.toList.length:=by rw[Array.length_toList];exact h
 rw[List.drop_eq_getElem_cons hl,←bytT s p hl,UInt8.ofNat_toNat]
theorem drop_end(s:ByteArray)(p:Nat)(h: ¬p<s.size):s.data.toList.drop p=[]:=List.drop_eq_nil_of_le (by rw[Array.length_toList];show s.size≤p;omega)
def plainP(s:ByteArray)(p:Nat):Bool:=plainL (s.data.toList.drop p)
theorem plainP_end {s:ByteArray} {p:Nat} (h: ¬p<s.size):plainP s p=true:=by unfold plainP;rw[drop_end s p h];rfl
theorem plainP_bad {s:ByteArray} {p:Nat} (h:p<s.size)(hb:byt s p<32∨byt s p=127):plainP s p=false:=by
 unfold plainP plainL
 rw[drop_at s p h,List.all_cons,Bool.and_eq_false_iff]
 left
 rw[Bool.and_eq_false_iff,ofNat_toNat (byt_lt s p)]
 rcases hb with hb|hb
 ·exact .inl (decide_eq_false (by omega))
 ·right
  refine decide_eq_false (fun hn=>hn ?_)
  rw[hb]
  rfl
theorem high_plain {l:Bs} (h: ∀c∈l,128≤c.toNat):plainL l=true:=List.all_eq_true.2 (fun c hc=>by
 have:=h c hc
 simp only[Bool.and_eq_true,decide_eq_true_eq]
 exact⟨by omega,by rintro rfl;exact absurd this (by decide)⟩)
theorem plain_app(a b:Bs):plainL (a++b)=(plainL a&&plainL b):=List.all_append
theorem plainP_step {s:ByteArray} {p:Nat} (h:p<s.size)(h1: ¬byt s p<32)(h2:byt s p≠127):plainP s p=plainP s (p+wd s p):=by
 unfold plainP
 rw[drop_rune s p,plain_app]
 have e:plainL (runeAt s p)=true:=by
  by_cases hl:byt s p<128
  ·rw[runeAt_low s p h hl]
   unfold plainL
   rw[List.all_cons,ofNat_toNat (byt_lt s p),decide_eq_true (by omega),decide_eq_true (show UInt8.ofNat (byt s p)≠127 from fun e=>h2 (by
    have:=congrArg UInt8.toNat e
    rwa [ofNat_toNat (byt_lt s p)]at this))]
   rfl
  ·exact high_plain (runeAt_high s p h (by omega))
 rw[e,Bool.true_and]
theorem mid_congr {p q:UInt8} (h1:p=58↔q=58)(h2:p=32↔q=32): ∀l:Bs,midL p l=midL q l
 | []=>rfl
 |c::l=>by
  have e1:(p==58)=(q==58):=by rw[Bool.eq_iff_iff];simpa using h1
  have e2:(p==32)=(q==32):=by rw[Bool.eq_iff_iff];simpa using h2
  unfold midL
  rw[e1,e2]
theorem mid_high: ∀ {l:Bs} (p q:UInt8) (r:Bs),l≠ []→(∀c∈l,128≤c.toNat)→128≤q.toNat→midL p (l++r)=midL q r
 | [],_,_,_,h,_,_=>absurd rfl h
 |c::l,p,q,r,_,h,hq=>by
  have hc:=h c (by simp)
  have e1:(c==32)=false:=beq_eq_false_iff_ne.2 (by rintro rfl;exact absurd hc (by decide))
  have e2:(c==35)=false:=beq_eq_false_iff_ne.2 (by rintro rfl;exact absurd hc (by decide))
  rw[List.cons_append,midL,e1,e2,Bool.and_false,Bool.and_false]
  simp only[Bool.not_false,Bool.and_self,Bool.true_and]
  cases l with
  |nil=>exact mid_congr ⟨fun e=>by rw[e]at hc;exact absurd hc (by decide),fun e=>by rw[e]at hq;exact absurd hq (by decide)⟩ ⟨fun e=>by rw[e]at hc;exact absurd hc (by decide),fun e=>by rw[e]at hq;exact absurd hq (by decide)⟩ r
  |cons d l=>exact mid_high c q r (by simp) (fun x hx=>h x (List.mem_cons_of_mem _ hx)) hq
def lastR(last:Nat):UInt8:=if last<128 then UInt8.ofNat last else 128
def midR(s:ByteArray)(p last:Nat):Bool:=midL (lastR last) (s.data.toList.drop p)
theorem lastR_is {last n:Nat} (hn:n<128):lastR last=UInt8.ofNat n↔last=n:=by
 unfold lastR
 constructor
 ·intro h
  split at h
  ·have:=congrArg UInt8.toNat h
   rwa [ofNat_toNat (by omega),ofNat_toNat (by omega)]at this
  ·have:=congrArg UInt8.toNat h
   rw[ofNat_toNat (by omega)]at this
   have e:(128:UInt8).toNat=128:=rfl
   omega
 ·rintro rfl
  rw[if_pos hn]
theorem midR_end {s:ByteArray} {p last:Nat} (h: ¬p<s.size):midR s p last=true:=by unfold midR;rw[drop_end s p h];rfl
theorem midR_bad {s:ByteArray} {p last:Nat} (h:p<s.size)(hb:last=58∧byt s p=32∨last=32∧byt s p=35):midR s p last=false:=by
 unfold midR
 rw[drop_at s p h]
 rcases hb with ⟨rfl,e⟩|⟨rfl,e⟩
 ·rw[e];rfl
 ·rw[e];rfl
theorem midR_step {s:ByteArray} {p last:Nat} (h:p<s.size)(hb: ¬(last=58∧byt s p=32∨last=32∧byt s p=35)):midR s p last=midR s (p+wd s p) (Utf8.decode s p).1:=by
 unfold midR
 by_cases hl:byt s p<128
 ·have e1:(Utf8.decode s p).1=byt s p:=by rw[dec_low s p hl]
  rw[drop_at s p h,wd_low s p hl,e1]
  have e2:lastR (byt s p)=UInt8.ofNat (byt s p):=by unfold lastR;rw[if_pos hl]
  rw[e2,midL]
  have t1:(lastR last==58&&UInt8.ofNat (byt s p)==32)=false:=by
   rw[Bool.and_eq_false_iff]
   by_cases h1:last=58
   ·right
    refine beq_eq_false_iff_ne.2 (fun e=>hb (.inl ⟨h1,?_⟩))
    have:=congrArg UInt8.toNat e
    rwa [ofNat_toNat (by omega)]at this
   ·left
    exact beq_eq_false_iff_ne.2 (fun e=>h1 ((lastR_is (n:=58) (by omega)).1 e))
  have t2:(lastR last==32&&UInt8.ofNat (byt s p)==35)=false:=by
   rw[Bool.and_eq_false_iff]
   by_cases h1:last=32
   ·right
    refine beq_eq_false_iff_ne.2 (fun e=>hb (.inr ⟨h1,?_⟩))
    have:=congrArg UInt8.toNat e
    rwa [ofNat_toNat (by omega)]at this
   ·left
    exact beq_eq_false_iff_ne.2 (fun e=>h1 ((lastR_is (n:=32) (by omega)).1 e))
  rw[t1,t2]
  rfl
 ·have hd: ¬(Utf8.decode s p).1<128:=fun e=>hl ((dec_ltY s p 128 (by omega)).1 e)
  have e2:lastR (Utf8.decode s p).1=128:=by unfold lastR;rw[if_neg hd]
  rw[drop_rune s p,e2]
  refine mid_high _ _ _ (fun e=> ?_) (runeAt_high s p h (by omega)) (by decide)
  have h1:=runeAt_len s p h
  have h2:=wd_pos s p
  rw[e,List.length_nil]at h1
  omega
theorem safe_congr {p q:UInt8} (h2:p=32↔q=32)(l:Bs):safeL p l=safeL q l:=by
 cases l with
 |nil=>rfl
 |cons c r=>
  unfold safeL
  by_cases h1:p=32
  ·rw[h1,h2.1 h1]
  ·rw[if_neg (show¬(c=35∧p=32) from fun e=>h1 e.2),if_neg (show¬(c=35∧q=32) from fun e=>h1 (h2.2 e.2))]
def safeR(s:ByteArray)(p last:Nat):Bs:=safeL (lastR last) (s.data.toList.drop p)
theorem safeR_end {s:ByteArray} {p last:Nat} (h: ¬p<s.size):safeR s p last=[]:=by unfold safeR;rw[drop_end s p h];rfl
theorem safeR_del {s:ByteArray} {p last:Nat} (h:p<s.size)(hb:byt s p=127):safeR s p last=[92,117,48,48,55,102]++safeR s (p+wd s p) (Utf8.decode s p).1:=by
 unfold safeR
 rw[drop_at s p h,wd_low s p (by omega),dec_low s p (by omega),hb]
 rfl
theorem safeR_hash {s:ByteArray} {p last:Nat} (h:p<s.size)(hb:byt s p=35)(hl:last=32):safeR s p last=[92,117,48,48,50,51]++safeR s (p+wd s p) (Utf8.decode s p).1:=by
 unfold safeR
 rw[drop_at s p h,wd_low s p (by omega),dec_low s p (by omega),hb,hl]
 rfl
theorem safeR_rune {s:ByteArray} {p last:Nat} (h:p<s.size)(h1:byt s p≠127)(h2: ¬(byt s p=35∧last=32)):safeR s p last=runeAt s p++safeR s (p+wd s p) (Utf8.decode s p).1:=by
 unfold safeR
 by_cases hl:byt s p<128
 ·rw[drop_at s p h,wd_low s p hl,dec_low s p hl,runeAt_low s p h hl]
  have e2:lastR (byt s p)=UInt8.ofNat (byt s p):=by unfold lastR;rw[if_pos hl]
  have n1:UInt8.ofNat (byt s p)≠127:=fun e=>h1 (by
   have:=congrArg UInt8.toNat e
   rwa [ofNat_toNat (by omega)]at this)
  have n2: ¬(UInt8.ofNat (byt s p)=35∧lastR last=32):=fun e=>h2 ⟨by
   have:=congrArg UInt8.toNat e.1
   rwa [ofNat_toNat (by omega)]at this,(lastR_is (n:=32) (by omega)).1 e.2⟩
  simp only
  rw[e2,safeL,if_neg n1,if_neg n2]
 ·have hh:=runeAt_high s p h (by omega)
  have hd: ¬(Utf8.decode s p).1<128:=fun e=>hl ((dec_ltY s p 128 (by omega)).1 e)
  have e2:lastR (Utf8.decode s p).1=128:=by unfold lastR;rw[if_neg hd]
  rw[drop_rune s p,safe_app,safe_no _ (fun c hc=>by
   have:=hh c hc
   constructor
   ·rintro rfl;exact absurd this (by decide)
   ·rintro rfl;exact absurd this (by decide)),e2]
  congr 1
  refine safe_congr ?_ _
  have hm:lastB (lastR last) (runeAt s p)∈runeAt s p:=last_in _ (fun e=>by
   have h1:=runeAt_len s p h
   have h2:=wd_pos s p
   rw[e,List.length_nil]at h1
   omega)
  have:=hh _ hm
  exact⟨fun e=>by rw[e]at this;exact absurd this (by decide),fun e=>absurd e (by decide)⟩
end Go.Proofs.YtkafjblfjdpdaaaGreatDoor
namespace Go.Proofs.YtkafjblfjdpdaaaGreatDoor
open Go.RowKit
theorem ofNat_is {n m:Nat} (hn:n<256)(hm:m<256):UInt8.ofNat n=UInt8.ofNat m↔n=m:=by
 constructor
 ·intro e
  have:=congrArg UInt8.toNat e
  rwa [ofNat_toNat hn,ofNat_toNat hm]at this
 ·rintro rfl;rfl
def midI(s:ByteArray)(p:Nat):Bool:=midL (UInt8.ofNat (byt s p)) (s.data.toList.drop (p+1))
theorem midI_all {s:ByteArray} (h:0<s.size):midL 0 s.data.toList=midI s 0:=by
 have e:=drop_at s 0 h
 rw[List.drop_zero]at e
 rw[e,midL]
 unfold midI
 rw[show ((0:UInt8)==58)=false by decide,show((0:UInt8)==32)=false by decide]
 simp only[Bool.false_and,Bool.not_false,Bool.and_self,Bool.true_and]
theorem last_byt {s:ByteArray} (h:0<s.size):lastB 0 s.data.toList=UInt8.ofNat (byt s (s.size-1)):=by
 have hl:s.data.toList.length=s.size:=Array.length_toList
 have key: ∀(l:Bs) (p:UInt8) (h:0<l.length),lastB p l=l[l.length-1]'(by omega):=fun l=>by
  induction l with
  |nil=>intro p h;exact absurd h (by simp)
  |cons c l ih=>
   intro p _
   cases l with
   |nil=>rfl
   |cons d l=>
    have:=ih c (by simp)
    show lastB c (d::l)=_
    rw[this]
    rfl
 rw[key _ 0 (by omega)]
 refine UInt8.toNat_inj.1 ?_
 rw[bytT s _ (by omega),ofNat_toNat (byt_lt s _),hl]
def signB(s:ByteArray):Bool:=signsL.contains (UInt8.ofNat (byt s 0))
def dashB(s:ByteArray):Bool:=decide (byt s 0=45)&&(decide (s.size=1)||decide (byt s 1=32))
theorem headY_byt {s:ByteArray} (h:0<s.size):headL s.data.toList=(!signB s&&!dashB s):=by
 have e:=drop_at s 0 h
 rw[List.drop_zero]at e
 have hl:s.data.toList.length=s.size:=Array.length_toList
 rw[e]
 unfold signB dashB
 show(!signsL.contains (UInt8.ofNat (byt s 0))&&!(UInt8.ofNat (byt s 0)==45&&(decide (s.data.toList.drop (0+1)=[])||(s.data.toList.drop (0+1)).head?==some 32)))=_
 have l0:=byt_lt s 0
 have e1:(UInt8.ofNat (byt s 0)==45)=decide (byt s 0=45):=by
  rw[Bool.eq_iff_iff,beq_iff_eq,decide_eq_true_eq]
  exact ofNat_is (m:=45) l0 (by omega)
 rw[e1]
 congr 3
 by_cases h1:1<s.size
 ·rw[drop_at s (0+1) h1]
  have e2:((UInt8.ofNat (byt s (0+1))::s.data.toList.drop (0+1+1)).head?==some (32:UInt8))=decide (byt s 1=32):=by
   rw[Bool.eq_iff_iff,beq_iff_eq,decide_eq_true_eq,List.head?_cons,Option.some.injEq]
   exact ofNat_is (m:=32) (byt_lt s _) (by omega)
  rw[e2,decide_eq_false (by simp),decide_eq_false (show¬s.size=1 by omega)]
 ·rw[drop_end s (0+1) (by omega),decide_eq_true rfl,decide_eq_true (show s.size=1 by omega)]
  rfl
theorem bare_byt(s:ByteArray):bareL s.data.toList=((valid s).2&&(decide (0<s.size)&&((!signB s&&!dashB s)&&(decide (byt s (s.size-1)≠32∧byt s (s.size-1)≠58)&&(plainP s 0&&midI s 0))))):=by
 have e:st s.data.toList=s:=ba_ext (by simp)
 unfold bareL
 rw[e]
 by_cases h:0<s.size
 ·rw[decide_eq_true h,headY_byt h,last_byt h,←midI_all h,Bool.true_and]
  have l0:=byt_lt s (s.size-1)
  have e2:decide (UInt8.ofNat (byt s (s.size-1))≠32∧UInt8.ofNat (byt s (s.size-1))≠58)=decide (byt s (s.size-1)≠32∧byt s (s.size-1)≠58):=by
   rw[Bool.eq_iff_iff,decide_eq_true_eq,decide_eq_true_eq]
   have a1:=ofNat_is (m:=32) l0 (by omega)
   have a2:=ofNat_is (m:=58) l0 (by omega)
   exact⟨fun h=>⟨fun e=>h.1 (a1.2 e),fun e=>h.2 (a2.2 e)⟩,fun h=>⟨fun e=>h.1 (a1.1 e),fun e=>h.2 (a2.1 e)⟩⟩
  rw[e2]
  rfl
 ·rw[decide_eq_false h]
  have e3:s.data.toList=[]:=by
   have:=drop_end s 0 h
   rwa [List.drop_zero]at this
  rw[e3]
  simp[headL]
end Go.Proofs.YtkafjblfjdpdaaaGreatDoor
